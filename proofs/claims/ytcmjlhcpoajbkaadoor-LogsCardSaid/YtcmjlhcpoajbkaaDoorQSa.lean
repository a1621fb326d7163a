import Derived.Test.YtcmjlhcpoajbkaaDoorQSp
namespace Go.Proofs.YtcmjlhcpoajbkaaDoor
set_option maxRecDepth 10000
set_option linter.unusedSimpArgs false
open Go.RowKit
theorem ixR (g n c k : Nat) (hk : k < n) (W : World) : (Instr.indexAt 22 (.slice (some ⟨g, 0, none⟩) n c) (.int .i64 k)).run Tryd.prog W = .ok (.pointer (some ⟨g, k, none⟩)) W := by
  have h1 : (k : Int) < n := by omega
  go_simp
/-- What Append comes to. -/
def appOut (xs : List Int) (es : List (List Int)) : List (List Int) × Int × Int := if 300 < xs.length ∨ 64 ≤ es.length then (es, 0, 2) else (es ++ [xs], es.length, 0)
theorem logApp_any (w : World) (g : Nat) (ev : Value) (key : List Int) (es : List (List Int)) (p : Option Addr) (n c : Nat) (xs : List Int) (hL : LogAt w 0 g ev key es) (hi : In8 w p n c xs) :
    Calls Tryd.prog 50 #[.pointer (some ⟨g, 0, none⟩), .slice p n c] w fun e w' => ∃ ev', e = .returned (.tuple #[.int .i64 (appOut xs es).2.1, .int .i64 (appOut xs es).2.2]) ∧ LogAt w' 0 g ev' key (appOut xs es).1 ∧ Kp (fun k => k = g ∨ ev.ownBlock = some k) w w' ∧ (∀ k, Blk w' g ev' (appOut xs es).1.length k → Blk w g ev es.length k ∨ w.heap.size ≤ k) := by
  have hl := hi.len
  have hs := hi.small
  by_cases h : 300 < xs.length ∨ 64 ≤ es.length
  · have e : appOut xs es = (es, 0, 2) := by unfold appOut; rw [if_pos h]
    rw [e]
    refine (appendNo_any w 0 g ev key es p n c hL (by omega) (by omega)).mono ?_
    rintro e w' ⟨rfl, rfl⟩
    exact ⟨ev, rfl, hL, ⟨rfl, rfl, rfl, Nat.le_refl _, fun _ _ _ => rfl⟩, fun k hk => .inl hk⟩
  · have e : appOut xs es = (es ++ [xs], (es.length : Int), 0) := by unfold appOut; rw [if_neg h]
    rw [e]
    refine (appendR_any w 0 g ev key es p n c xs hL hi (by omega) (by omega)).mono ?_
    rintro e w' ⟨ev', rfl, h1, h2, h3⟩
    exact ⟨ev', rfl, h1, h2, fun k hk => h3 k (by rw [List.length_append] at hk; exact hk)⟩
theorem refApp_any (w : World) (g : Nat) (yv : Value) (l : List UInt8) (es : List (List Int)) (xs : List Int) (hL : RefAt w g yv l es) (hxb : Bytes xs) (hs : xs.length ≤ 9223372036854775807) :
    Calls Tryd.prog 70 #[.pointer (some ⟨g, 0, none⟩), .string ⟨(toU xs).toArray⟩] w fun e w' => ∃ yv', e = .returned (.tuple #[.int .i64 (appOut xs es).2.1, .int .i64 (appOut xs es).2.2]) ∧ RefAt w' g yv' l (appOut xs es).1 ∧ Kp (fun k => k = g ∨ yv.ownBlock = some k) w w' ∧ (∀ k, yv'.ownBlock = some k → yv.ownBlock = some k ∨ w.heap.size ≤ k) := by
  by_cases h : 300 < xs.length ∨ 64 ≤ es.length
  · have e : appOut xs es = (es, 0, 2) := by unfold appOut; rw [if_pos h]
    rw [e]
    refine (refAppendNo_any w g yv l es xs hL hs h).mono ?_
    rintro e w' ⟨rfl, rfl⟩
    exact ⟨yv, rfl, hL, ⟨rfl, rfl, rfl, Nat.le_refl _, fun _ _ _ => rfl⟩, fun k hk => .inl hk⟩
  · have e : appOut xs es = (es ++ [xs], (es.length : Int), 0) := by unfold appOut; rw [if_neg h]
    rw [e]
    exact refAppend_any w g yv l es xs hL (by omega) hxb (by omega)
/-- What was handed in, and roomy's memory, behind a change of other blocks. -/
theorem Pair.kp {X : Nat → Prop} {w0 w w' : World} {v : Value} {p : Option Addr} {n cap B : Nat} {xs : List Int} (h : Pair w v p n cap xs) (hA : Arg w0 v xs) (hR : Rowy w B p n) (hk : Kp X w w') (hX : ∀ k, X k → w0.heap.size ≤ k ∧ k < B) (hw : w0.heap.size ≤ w.heap.size) : Pair w' v p n cap xs := by
  rcases h with h | ⟨ad, c, g, h1, h2, h3, h4, h5, h6, h7, h8, h9⟩
  · exact .inl h
  · have hg : ¬ X g := fun hx => by have := (hR.of (k := g) ⟨_, h2, rfl⟩).1; have := (hX g hx).2; omega
    have hgb := hk.block g h6 hg
    refine .inr ⟨ad, c, g, h1, h2, h3, h4, h5, Nat.lt_of_lt_of_le h6 hk.size, fun j hj => ?_, fun j hj => by rw [World.cell?_of_block (w := w) (a := ⟨g, j, none⟩) hgb]; exact h8 j hj, by rw [World.cell?_of_block (w := w) (a := ⟨g, n, none⟩) hgb]; exact h9⟩
    have hb : ad.block < w0.heap.size := by
      rcases hA with ⟨e, _⟩ | ⟨ad', n', c', e, e2, _, _, e5⟩
      · rw [h1] at e; cases e
      · rw [h1] at e
        injection e with e1
        injection e1 with e1
        subst e1
        have := block_lt_of_cell (e5 0 (by omega))
        rwa [addr_block] at this
    rw [World.cell?_of_block (w := w) (a := ad.add j) (by rw [addr_block]; exact hk.block _ (by omega) (fun hx => by have := (hX _ hx).1; omega))]
    exact h7 j hj
theorem Rowy.kp {X : Nat → Prop} {w w' : World} {B : Nat} {p : Option Addr} {n : Nat} (h : Rowy w B p n) (hk : Kp X w w') (hX : ∀ k, X k → k < B) : Rowy w' B p n := by
  rcases h with h | ⟨g, cur, h1, h2, h3, h4⟩
  · exact .inl h
  · exact .inr ⟨g, cur, h1, h2, (hk.block g (row_lt h3) (fun hx => by have := hX g hx; omega)).trans h3, h4⟩
theorem RefAt.other {w : World} {g gp : Nat} {yv : Value} {l : List UInt8} {es : List (List Int)} (h : RefAt w g yv l es) {cs : Array Value} (hp : w.heap[gp]? = some (.cells cs 63)) : ¬ (gp = g ∨ yv.ownBlock = some gp) := by
  rintro (e | e)
  · subst e
    rw [h.blk] at hp
    simp only [Option.some.injEq, Obj.cells.injEq] at hp
    exact absurd hp.2.1 (by decide)
  · obtain ⟨_, ⟨rfl, _⟩ | ⟨r, cap, cur, rfl, _, hh, _⟩⟩ := h.own
    · cases e
    · simp only [Value.ownBlock, Option.some.injEq] at e
      subst e
      rw [hp] at hh
      simp only [Option.some.injEq, Obj.cells.injEq] at hh
      exact absurd hh.2.1 (by decide)
theorem yields_conv {ops : Array Oper} {o : Oper} {a : Act} {S : World → Prop} (hw : Region.wanted o (yielded ops a.tmps) = true) (x : Operand) (ho : o.op = .convert 22 9 x) (bv v : Value) (hx : a.eval x = bv) (hS : ∀ W, S W → (convert 22 9 bv).run Tryd.prog W = .ok v W) : YieldsIf Tryd.prog ops S o v a :=
  .inl ⟨hw, fun W hW => by
    unfold execOp
    simp only [ho, hx, Sem.run_bind, hS W hW, Result.andThen_ok, Sem.run_pure]⟩
set_option maxHeartbeats 16000000 in
theorem step_append (w w0 : World) (hw0 : Below w0.heap.size w0 w) (F G : Nat → Prop) (gp gx gy gb n : Nat) (ev yv kv blv : Value) (key : List Int) (es : List (List Int)) (hP : PairAt w F gp gx gy ev yv kv key es) (hB : BookAt w G gb blv n) (hF : ∀ k, F k → k < w.heap.size) (hG : ∀ k, G k → k < w.heap.size) (hF0 : ∀ k, F k → w0.heap.size ≤ k) (hFG : ∀ k, F k → ¬ G k) (a i m : Int) (bv : Value) (xs : List Int) (hbv : Arg w0 bv xs) :
    Calls Tryd.prog 33 #[.pointer (some ⟨gp, 0, none⟩), opV 1 a i m bv, .pointer (some ⟨gb, 0, none⟩)] w (StepOut w F G gp gy gb n kv key) := by
  have HB : Hid (BookAt w G gb blv n) := hB
  have HP : Hid (PairAt w F gp gx gy ev yv kv key es) := hP
  have HF : Hid (∀ k, F k → k < w.heap.size) := hF
  have HF0 : Hid (∀ k, F k → w0.heap.size ≤ k) := hF0
  have HFG : Hid (∀ k, F k → ¬ G k) := hFG
  have HA : Hid (Arg w0 bv xs) := hbv
  have HW0 : Hid (Below w0.heap.size w0 w) := hw0
  have hsm := hbv.small
  have hxb := hbv.bytes
  obtain ⟨bp, bn, bc, rfl⟩ : ∃ bp bn bc, bv = .slice bp bn bc := by
    rcases hbv with ⟨e, _⟩ | ⟨ad, n', c', e, _⟩
    · exact ⟨_, _, _, e⟩
    · exact ⟨_, _, _, e⟩
  have HG : Hid (∀ k, G k → k < w.heap.size) := hG
  clear hP hB hF hG hF0 hFG hbv hw0
  have b0 : Below w.heap.size w (w.alloc (.cells #[.int .i64 1, .int .i64 a, .int .i64 i, .int .i64 m, (.slice bp bn bc)] 66)) := (Below.refl _ _).alloc (Nat.le_refl _) _
  have hV := heapN w (.cells #[.int .i64 1, .int .i64 a, .int .i64 i, .int .i64 m, (.slice bp bn bc)] 66) _ rfl
  obtain ⟨gO, hgO⟩ : ∃ gO, gO = w.heap.size := ⟨_, rfl⟩
  have hws : w0.heap.size ≤ w.heap.size := HW0.out.size
  unfold opV
  go_enter Tryd.func33, Tryd.ntmps33
  go_wp2_with fail
  generalize w.alloc (.cells #[.int .i64 1, .int .i64 a, .int .i64 i, .int .i64 m, (.slice bp bn bc)] 66) = V at *
  have BV0 : Below w0.heap.size w0 V := HW0.out.trans (b0.mono hws)
  have cO : V.cell? ⟨w.heap.size, 4, none⟩ = some (.slice bp bn bc) := by rw [cell_of_row _ _ _ _ _ _ hV]; rfl
  have hVs := b0.size
  have hgOl := row_lt hV
  rw [← hgO] at cO hgOl ⊢
  have HGO : Hid (gO = w.heap.size) := hgO
  clear hgO
  refine (roomyW_any (HA.out.below BV0)).mono ?_
  rintro e w1 ⟨p, k, cap, rfl, b1, hPr, hI, hR⟩
  have B1 : Below w.heap.size w w1 := b0.trans (b1.mono b0.size)
  have HP1 : Hid (PairAt w1 F gp gx gy ev yv kv key es) := HP.out.below B1
  have HPr : Hid (Pair w1 (.slice bp bn bc) p k cap xs) := hPr
  have HI : Hid (In8 w1 p k cap xs) := hI
  have HR : Hid (Rowy w1 V.heap.size p k) := hR
  have HOF : Hid (∀ z, Of p z → V.heap.size ≤ z ∧ z < w1.heap.size) := fun z hz => hR.of hz
  have c10 := HP1.out.c0
  have cO1 : w1.cell? ⟨gO, 4, none⟩ = some (.slice bp bn bc) := by rw [b1.cell (block_lt_of_cell cO)]; exact cO
  have hV1 := b1.size
  have hkl := hI.len
  have W01 : Hid (Below w0.heap.size w0 w1) := BV0.trans (b1.mono BV0.size)
  clear hPr hI hR hV cO
  go_wp2_with fail
  refine (logApp_any w1 gx ev key es p k cap xs HP1.out.log HI.out).mono ?_
  rintro e w2 ⟨ev', rfl, hL2, k2, q2⟩
  have HL2 : Hid (LogAt w2 0 gx ev' key (appOut xs es).1) := hL2
  have K2 : Hid (Kp (fun z => z = gx ∨ ev.ownBlock = some z) w1 w2) := k2
  have Q2 : Hid (∀ z, Blk w2 gx ev' (appOut xs es).1.length z → Blk w1 gx ev es.length z ∨ w1.heap.size ≤ z) := q2
  have hX1 : Hid (∀ z, (z = gx ∨ ev.ownBlock = some z) → Blk w1 gx ev es.length z) := fun z hz => by
    rcases hz with h | h
    · exact .inl h
    · exact .inr (.inl h)
  have hX1F : Hid (∀ z, (z = gx ∨ ev.ownBlock = some z) → F z) := fun z hz => HP1.out.flog z (hX1.out z hz)
  have HR2 : Hid (RefAt w2 gy yv (toU key) es) := HP1.out.ref.frame k2 (fun h => (HP1.out.apart gy (hX1.out gy h)).2.1 rfl) (fun z hz h => (HP1.out.apart z (hX1.out z h)).2.2 hz)
  have hgp2 : w2.heap[gp]? = some (.cells #[.pointer (some ⟨gx, 0, none⟩), .pointer (some ⟨gy, 0, none⟩), kv] 63) := (k2.block gp (row_lt HP1.out.blk) (fun h => (HP1.out.apart gp (hX1.out gp h)).1 rfl)).trans HP1.out.blk
  have cO2 : w2.cell? ⟨gO, 4, none⟩ = some (.slice bp bn bc) := by rw [World.cell?_of_block (w := w1) (a := ⟨gO, 4, none⟩) (k2.block gO (by omega) (fun h => by have := HF.out gO (hX1F.out gO h); have := HGO.out; omega))]; exact cO1
  have W02 : Hid (Below w0.heap.size w0 w2) := k2.below (fun z hz => HF0.out z (hX1F.out z hz)) W01.out.size W01.out
  have HPr2 : Hid (Pair w2 (.slice bp bn bc) p k cap xs) := HPr.out.kp HA.out HR.out k2 (fun z hz => ⟨HF0.out z (hX1F.out z hz), by have := HF.out z (hX1F.out z hz); omega⟩) W01.out.size
  have HRw2 : Hid (Rowy w2 V.heap.size p k) := HR.out.kp k2 (fun z hz => by have := HF.out z (hX1F.out z hz); omega)
  have c21 : w2.cell? ⟨gp, 1, none⟩ = some (.pointer (some ⟨gy, 0, none⟩)) := by rw [cell_of_row _ _ _ _ _ _ hgp2]; rfl
  have hs12 := k2.size
  clear hL2 k2 q2 c10 cO1 HI
  obtain ⟨AO, hAO⟩ : ∃ AO, appOut xs es = AO := ⟨_, rfl⟩
  have HAO : Hid (appOut xs es = AO) := hAO
  rw [hAO] at HL2 Q2 ⊢
  clear hAO
  obtain ⟨es', ra, er⟩ := AO
  have HL2' : Hid (LogAt w2 0 gx ev' key es') := HL2.out
  have Q2' : Hid (∀ z, Blk w2 gx ev' es'.length z → Blk w1 gx ev es.length z ∨ w1.heap.size ≤ z) := Q2.out
  clear HL2 Q2
  go_upto_region 5 with fail
  have hX2F : Hid (∀ z, (z = gy ∨ yv.ownBlock = some z) → F z) := fun z hz => by
    rcases hz with h | h
    · rw [h]; exact HP1.out.fgy
    · exact HP1.out.frow z h
  have bD : Below w2.heap.size w2 w2.drew := (Below.refl _ _).drew
  have S0 : w2.drew.cell? ⟨gp, 1, none⟩ = some (.pointer (some ⟨gy, 0, none⟩)) ∧ w2.drew.cell? ⟨gO, 4, none⟩ = some (.slice bp bn bc) ∧ (convert 22 9 (.slice bp bn bc)).run Tryd.prog w2.drew = .ok (.string ⟨(toU xs).toArray⟩) w2.drew := ⟨c21, cO2, (HA.out.below (W02.out.drew)).conv⟩
  refine wp_region_noPanic ?_
  refine wp_region_held (S := fun W => W.cell? ⟨gp, 1, none⟩ = some (.pointer (some ⟨gy, 0, none⟩)) ∧ W.cell? ⟨gO, 4, none⟩ = some (.slice bp bn bc) ∧ (convert 22 9 (.slice bp bn bc)).run Tryd.prog W = .ok (.string ⟨(toU xs).toArray⟩) W) follows ?_
  refine wpAnyH_take (i := 0) (v := .pointer (some ⟨gp, 0, none⟩)) rfl (by kernel_rfl) (by kernel_rfl) (by kernel_rfl) (fun _ _ _ h => h) (.inl ⟨rfl, fun W _ => by go_simp⟩) S0 ?_
  simp only [Act.put, List.getElem_toArray, List.getElem_cons_zero, List.getElem_cons_succ, List.setIfInBounds_toArray, List.set_cons_zero, List.set_cons_succ]
  refine wpAnyH_take (i := 1) (v := .pointer (some ⟨gp, 0, none⟩)) rfl (by kernel_rfl) (by kernel_rfl) (by kernel_rfl) (fun _ _ _ h => h) (.inl ⟨rfl, fun W _ => by go_simp⟩) S0 ?_
  simp only [Act.put, List.getElem_toArray, List.getElem_cons_zero, List.getElem_cons_succ, List.setIfInBounds_toArray, List.set_cons_zero, List.set_cons_succ]
  refine wpAnyH_take (i := 2) (v := .pointer (some ⟨gp, 1, none⟩)) rfl (by kernel_rfl) (by kernel_rfl) (by kernel_rfl) (fun _ _ _ h => h) (.inl ⟨rfl, fun W _ => by go_simp⟩) S0 ?_
  simp only [Act.put, List.getElem_toArray, List.getElem_cons_zero, List.getElem_cons_succ, List.setIfInBounds_toArray, List.set_cons_zero, List.set_cons_succ]
  refine wpAnyH_take (i := 3) (v := .pointer (some ⟨gy, 0, none⟩)) rfl (by kernel_rfl) (by kernel_rfl) (by kernel_rfl) (fun _ _ _ h => h) (.inl ⟨rfl, fun W hW => by have e := hW.1; go_simp⟩) S0 ?_
  simp only [Act.put, List.getElem_toArray, List.getElem_cons_zero, List.getElem_cons_succ, List.setIfInBounds_toArray, List.set_cons_zero, List.set_cons_succ]
  refine wpAnyH_take (i := 4) (v := .pointer (some ⟨gO, 4, none⟩)) rfl (by kernel_rfl) (by kernel_rfl) (by kernel_rfl) (fun _ _ _ h => h) (.inl ⟨rfl, fun W _ => by go_simp⟩) S0 ?_
  simp only [Act.put, List.getElem_toArray, List.getElem_cons_zero, List.getElem_cons_succ, List.setIfInBounds_toArray, List.set_cons_zero, List.set_cons_succ]
  refine wpAnyH_take (i := 5) (v := .slice bp bn bc) rfl (by kernel_rfl) (by kernel_rfl) (by kernel_rfl) (fun _ _ _ h => h) (.inl ⟨rfl, fun W hW => by have e := hW.2.1; go_simp⟩) S0 ?_
  simp only [Act.put, List.getElem_toArray, List.getElem_cons_zero, List.getElem_cons_succ, List.setIfInBounds_toArray, List.set_cons_zero, List.set_cons_succ]
  refine wpAnyH_take (i := 6) (v := .string ⟨(toU xs).toArray⟩) rfl (by kernel_rfl) (by kernel_rfl) (by kernel_rfl) (fun _ _ _ h => h) (yields_conv rfl (.tmp 56) rfl (.slice bp bn bc) _ rfl (fun W hW => hW.2.2)) S0 ?_
  simp only [Act.put, List.getElem_toArray, List.getElem_cons_zero, List.getElem_cons_succ, List.setIfInBounds_toArray, List.set_cons_zero, List.set_cons_succ]
  refine relist #[true, true, true, true, true, true, true, false, false, false, false, false, false] (by kernel_rfl) ?_
  refine any_one (i := 7) (by kernel_rfl) ?_
  refine wpOp_call (f := 70) (args := #[.pointer (some ⟨gy, 0, none⟩), .string ⟨(toU xs).toArray⟩]) rfl rfl (by go_simp) ?_
  refine (refApp_any w2.drew gy yv (toU key) es xs (HR2.out.below bD) hxb (by omega)).mono ?_
  rintro e w3 ⟨yv', rfl, hR3, k3, q3⟩
  rw [HAO.out] at hR3 ⊢
  have K3 : Hid (Kp (fun z => z = gy ∨ yv.ownBlock = some z) w2 w3) := (kp_of bD rfl).trans k3
  have HR3 : Hid (RefAt w3 gy yv' (toU key) es') := hR3
  have Q3 : Hid (∀ z, yv'.ownBlock = some z → yv.ownBlock = some z ∨ w2.heap.size ≤ z) := q3
  have hgp3 : w3.heap[gp]? = some (.cells #[.pointer (some ⟨gx, 0, none⟩), .pointer (some ⟨gy, 0, none⟩), kv] 63) := (K3.out.block gp (row_lt hgp2) (HR2.out.other hgp2)).trans hgp2
  have cO3 : w3.cell? ⟨gO, 4, none⟩ = some (.slice bp bn bc) := by rw [World.cell?_of_block (w := w2) (a := ⟨gO, 4, none⟩) (K3.out.block gO (by omega) (fun h => by have := HF.out gO (hX2F.out gO h); have := HGO.out; omega))]; exact cO2
  have W03 : Hid (Below w0.heap.size w0 w3) := K3.out.below (fun z hz => HF0.out z (hX2F.out z hz)) W02.out.size W02.out
  have c31 : w3.cell? ⟨gp, 1, none⟩ = some (.pointer (some ⟨gy, 0, none⟩)) := by rw [cell_of_row _ _ _ _ _ _ hgp3]; rfl
  have S3 : w3.cell? ⟨gp, 1, none⟩ = some (.pointer (some ⟨gy, 0, none⟩)) ∧ w3.cell? ⟨gO, 4, none⟩ = some (.slice bp bn bc) ∧ (convert 22 9 (.slice bp bn bc)).run Tryd.prog w3 = .ok (.string ⟨(toU xs).toArray⟩) w3 := ⟨c31, cO3, (HA.out.below W03.out).conv⟩
  have HPr3 : Hid (Pair w3 (.slice bp bn bc) p k cap xs) := HPr2.out.kp HA.out HRw2.out K3.out (fun z hz => ⟨HF0.out z (hX2F.out z hz), by have := HF.out z (hX2F.out z hz); omega⟩) W02.out.size
  have HRw3 : Hid (Rowy w3 V.heap.size p k) := HRw2.out.kp K3.out (fun z hz => by have := HF.out z (hX2F.out z hz); omega)
  have hfr3 := HL2'.out.frame K3.out (fun z hz hx => by
    rcases Q2'.out z hz with h | h
    · rcases hx with hx | hx
      · exact (HP1.out.apart z h).2.1 hx
      · exact (HP1.out.apart z h).2.2 hx
    · have := HF.out z (hX2F.out z hx)
      have := B1.size
      omega)
  have HL3 : Hid (LogAt w3 0 gx ev' key es') := hfr3.1
  have HB3 : Hid (∀ z, Blk w3 gx ev' es'.length z → Blk w2 gx ev' es'.length z) := hfr3.2
  have hs23 := K3.out.size
  refine ⟨_, rfl, S3, ?_⟩
  simp only [Act.put, List.getElem_toArray, List.getElem_cons_zero, List.getElem_cons_succ, List.setIfInBounds_toArray, List.set_cons_zero, List.set_cons_succ]
  refine wpAnyH_take (i := 8) (v := .tuple #[.int .i64 ra, .int .i64 er]) rfl (by kernel_rfl) (by kernel_rfl) (by kernel_rfl) (fun _ _ _ h => h) (.inl ⟨rfl, fun W _ => by go_simp⟩) S3 ?_
  simp only [Act.put, List.getElem_toArray, List.getElem_cons_zero, List.getElem_cons_succ, List.setIfInBounds_toArray, List.set_cons_zero, List.set_cons_succ]
  refine wpAnyH_take (i := 9) (v := .int .i64 ra) rfl (by kernel_rfl) (by kernel_rfl) (by kernel_rfl) (fun _ _ _ h => h) (.inl ⟨rfl, fun W _ => by go_simp⟩) S3 ?_
  simp only [Act.put, List.getElem_toArray, List.getElem_cons_zero, List.getElem_cons_succ, List.setIfInBounds_toArray, List.set_cons_zero, List.set_cons_succ]
  refine wpAnyH_take (i := 10) (v := .int .i64 er) rfl (by kernel_rfl) (by kernel_rfl) (by kernel_rfl) (fun _ _ _ h => h) (.inl ⟨rfl, fun W _ => by go_simp⟩) S3 ?_
  simp only [Act.put, List.getElem_toArray, List.getElem_cons_zero, List.getElem_cons_succ, List.setIfInBounds_toArray, List.set_cons_zero, List.set_cons_succ]
  refine wpAnyH_take (i := 11) (v := .int .i64 ra) rfl (by kernel_rfl) (by kernel_rfl) (by kernel_rfl) (fun _ _ _ h => h) (.inl ⟨rfl, fun W _ => by go_simp⟩) S3 ?_
  simp only [Act.put, List.getElem_toArray, List.getElem_cons_zero, List.getElem_cons_succ, List.setIfInBounds_toArray, List.set_cons_zero, List.set_cons_succ]
  refine wpAnyH_take (i := 12) (v := .int .i64 er) rfl (by kernel_rfl) (by kernel_rfl) (by kernel_rfl) (fun _ _ _ h => h) (.inl ⟨rfl, fun W _ => by go_simp⟩) S3 ?_
  simp only [Act.put, List.getElem_toArray, List.getElem_cons_zero, List.getElem_cons_succ, List.setIfInBounds_toArray, List.set_cons_zero, List.set_cons_succ]
  refine wpAnyH_done (by kernel_rfl) ?_ _
  refine NoPanic.normal ?_
  clear S0 S3 hR3 k3 q3 hfr3 bD c21 cO2 c31 hgp2 HR2 HPr HPr2 HRw2 HR
  go_wp2_with fail
  refine (kept_any HPr3.out).mono ?_
  rintro e w4 ⟨rfl, hw4⟩
  rw [hw4]
  clear hw4 w4 HPr3
  go_wp2_with fail
  go_loopw [13] (fun iv wr => ∃ j : Nat, j ≤ k ∧ iv = .int .i64 j ∧ Kp (Of p) w3 wr ∧ Rowy wr V.heap.size p k) (fun iv _ => k - (intOf iv).toNat)
  case atStart => exact ⟨0, by omega, rfl, ⟨rfl, rfl, rfl, Nat.le_refl _, fun _ _ _ => rfl⟩, HRw3.out⟩
  case round =>
    obtain ⟨j, hj, rfl, hkp, hrw⟩ := hrel
    by_cases hjl : j < k
    · have hjl' : (j : Int) < k := by omega
      obtain ⟨g, cur, rfl, hg, hch, hcz⟩ := hrw.resolve_left (fun h => by omega)
      have hcj : wr.cell? ⟨g, j, none⟩ = some (cur[j]'(by omega)) := by rw [cell_of_row _ _ _ _ _ _ hch]; simp
      have hfj := frozen_of_row wr g j _ _ hch
      have hix := ixR g k cap j hjl
      clear hrw
      go_wp2_with fail
      go_roundw
      case rel =>
        refine ⟨j + 1, by omega, by go_num, ⟨hkp.os, hkp.tape, hkp.output, by simpa using hkp.size, fun z hz hx => ?_⟩, .inr ⟨g, cur.setIfInBounds j (.int .u8 35), rfl, hg, heap_setCell_same wr g j _ _ _ hch, by simpa using hcz⟩⟩
        rw [Below.heap_setCell _ _ _ _ (by intro he; exact hx ⟨_, rfl, he.symm⟩)]
        exact hkp.block z hz hx
      case measure => first | (simp [intOf]; done) | (simp [intOf]; omega)
    · have hjl' : ¬ (j : Int) < k := by omega
      have HKP : Hid (Kp (Of p) w3 wr) := hkp
      clear hkp hrw
      go_wp2_with fail
      refine (num_any er wr).mono ?_
      rintro e w5 ⟨rfl, hw5⟩
      rw [hw5]
      clear hw5 w5
      go_wp2_with fail
      go_ret
      have hw1 := B1.size
      have hsub : ∀ z, Blk w3 gx ev' es'.length z → Blk w1 gx ev es.length z ∨ w1.heap.size ≤ z := fun z hz => Q2'.out z (HB3.out z hz)
      have hfr4 := HL3.out.frame HKP.out (fun z hz hx => by
        have h1 := HOF.out z hx
        rcases hsub z hz with h | h
        · have := HF.out z (HP1.out.flog z h); omega
        · omega)
      refine ⟨rfl, true, gx, ev', yv', es', blv, n, ⟨(HKP.out.block gp (row_lt hgp3) (fun h => by have := (HOF.out gp h).1; have := HF.out gp HP1.out.fgp; omega)).trans hgp3, .inl HP1.out.fgp, hfr4.1, fun z hz => ?_, HR3.out.frame HKP.out (fun h => by have := (HOF.out gy h).1; have := HF.out gy HP1.out.fgy; omega) (fun z hz h => ?_), .inl HP1.out.fgy, fun z hz => ?_, fun z hz => ?_, HP1.out.klen, HP1.out.kbytes⟩, ((((HB.out.below B1).frame K2.out (fun z hg hx => HFG.out z (hX1F.out z hx) hg)).frame K3.out (fun z hg hx => HFG.out z (hX2F.out z hx) hg)).frame HKP.out (fun z hg hx => by have := (HOF.out z hx).1; have := HG.out z hg; omega)).mono (fun z hz => .inl hz), by omega, ⟨HKP.out.os.trans (K3.out.os.trans (K2.out.os.trans B1.os)), HKP.out.tape.trans (K3.out.tape.trans (K2.out.tape.trans B1.tape)), HKP.out.output.trans (K3.out.output.trans (K2.out.output.trans B1.output)), Nat.le_trans B1.size (Nat.le_trans K2.out.size (Nat.le_trans K3.out.size HKP.out.size)), fun z hz hx => ?_⟩⟩
      · rcases hsub z (hfr4.2 z hz) with h | h
        · exact .inl (HP1.out.flog z h)
        · exact .inr ⟨rfl, by omega⟩
      · have h1 := HOF.out z h
        rcases Q3.out z hz with h | h
        · have := HF.out z (HP1.out.frow z h); omega
        · omega
      · rcases Q3.out z hz with h | h
        · exact .inl (HP1.out.frow z h)
        · exact .inr ⟨rfl, by omega⟩
      · have hz2 := HB3.out z (hfr4.2 z hz)
        have hz2l := (HL2'.out.blk_ge hz2).2
        rcases Q2'.out z hz2 with h | h
        · have hl := (HP1.out.log.blk_ge h).2
          refine ⟨(HP1.out.apart z h).1, (HP1.out.apart z h).2.1, fun e => ?_⟩
          rcases Q3.out z e with h' | h'
          · exact (HP1.out.apart z h).2.2 h'
          · omega
        · have e1 := HF.out gp HP1.out.fgp
          have e2 := HF.out gy HP1.out.fgy
          refine ⟨by omega, by omega, fun e => ?_⟩
          rcases Q3.out z e with h' | h'
          · have := HF.out z (HP1.out.frow z h'); omega
          · omega
      · exact (HKP.out.block z (by omega) (fun h => by have := (HOF.out z h).1; omega)).trans ((K3.out.block z (by omega) (fun h => hx (.inl (hX2F.out z h)))).trans ((K2.out.block z (by omega) (fun h => hx (.inl (hX1F.out z h)))).trans (B1.block z hz)))
end Go.Proofs.YtcmjlhcpoajbkaaDoor
