import Derived.Test.YtcmjlhcpoajbkaaDoorRd
namespace Go.Proofs.YtcmjlhcpoajbkaaDoor
set_option maxRecDepth 10000
set_option linter.unusedSimpArgs false
open Go.RowKit
open Extern.Stop (cell)
theorem A8_cells (D : List Int) (hb : Bytes D) : A8 D = ((toU D).map cell).toArray := by
  conv => lhs; rw [← toI_toU D hb]
  unfold A8 toI
  rw [List.map_map]
  rfl
theorem toU_inj {D E : List Int} (hD : Bytes D) (hE : Bytes E) : (toU D == toU E) = decide (D = E) := by
  by_cases h : D = E
  · subst h; simp
  · have : ¬ toU D = toU E := fun e => h (by rw [← toI_toU D hD, ← toI_toU E hE, e])
    simp [h, this]
theorem eql_D (D E : List Int) (hl : D.length = 32) (hb : Bytes D) (hl' : E.length = 32) (hb' : Bytes E) (w : World) : (binOp .eql 25 (.agg (A8 D)) (.agg (A8 E))).run Tryd.prog w = .ok (.bool (decide (D = E))) w := by
  have h := run_eql_bytes (P := Tryd.prog) w 25 5 32 und25 Tryd.underlying5 Tryd.sizeOf5 (toU D) (toU E) (by rw [toU_len, hl]) (by rw [toU_len, hl'])
  rw [A8_cells D hb, A8_cells E hb', h, toU_inj hb hb']
theorem neq_D (D E : List Int) (hl : D.length = 32) (hb : Bytes D) (hl' : E.length = 32) (hb' : Bytes E) (w : World) : (binOp .neq 25 (.agg (A8 D)) (.agg (A8 E))).run Tryd.prog w = .ok (.bool (!decide (D = E))) w := by
  have h := run_equalIn_bytes (P := Tryd.prog) w 9998 25 5 32 und25 Tryd.underlying5 Tryd.sizeOf5 (toU D) (toU E) (by rw [toU_len, hl]) (by rw [toU_len, hl'])
  rw [A8_cells D hb, A8_cells E hb', run_neq_struct, h, toU_inj hb hb']
  rfl
section
variable {ops : Array Oper} {rest : List Oper} {o : Oper} {a : Act} {w : World} {Q : Exit → Act → World → Prop} {S : World → Prop}
theorem yields_eql (hw : Region.wanted o (yielded ops a.tmps) = true) (x y : Operand) (ho : o.op = .binOp .eql 25 x y 25) (D E : List Int) (hl : D.length = 32) (hb : Bytes D) (hl' : E.length = 32) (hb' : Bytes E)
    (hx : a.eval x = .agg (A8 D)) (hy : a.eval y = .agg (A8 E)) : YieldsIf Tryd.prog ops S o (.bool (decide (D = E))) a :=
  .inl ⟨hw, fun w _ => by
    have e := eql_D D E hl hb hl' hb' w
    have g := run_eqGuard_agg (P := Tryd.prog) w .eql 25 x y (A8 D) (A8 E) (by kernel_rfl)
    unfold execOp
    simp only [ho, hx, hy, Sem.run_bind, g, e, Result.andThen_ok, Sem.run_pure]⟩
theorem yields_neq (hw : Region.wanted o (yielded ops a.tmps) = true) (x y : Operand) (ho : o.op = .binOp .neq 25 x y 25) (D E : List Int) (hl : D.length = 32) (hb : Bytes D) (hl' : E.length = 32) (hb' : Bytes E)
    (hx : a.eval x = .agg (A8 D)) (hy : a.eval y = .agg (A8 E)) : YieldsIf Tryd.prog ops S o (.bool (!decide (D = E))) a :=
  .inl ⟨hw, fun w _ => by
    have e := neq_D D E hl hb hl' hb' w
    have g := run_eqGuard_agg (P := Tryd.prog) w .neq 25 x y (A8 D) (A8 E) (by kernel_rfl)
    unfold execOp
    simp only [ho, hx, hy, Sem.run_bind, g, e, Result.andThen_ok, Sem.run_pure]⟩
/-- The operation of '==' on two digests, in a plain region. -/
theorem wpList_eql (hw : Region.wanted o (yielded ops a.tmps) = true) (x y : Operand) (ho : o.op = .binOp .eql 25 x y 25) (D E : List Int) (hl : D.length = 32) (hb : Bytes D) (hl' : E.length = 32) (hb' : Bytes E)
    (hx : a.eval x = .agg (A8 D)) (hy : a.eval y = .agg (A8 E)) (h : wpList Tryd.prog ops Q rest (a.put o.dst (.bool (decide (D = E)))) w) : wpList Tryd.prog ops Q (o :: rest) a w := by
  have e := eql_D D E hl hb hl' hb' w
  have g := run_eqGuard_agg (P := Tryd.prog) w .eql 25 x y (A8 D) (A8 E) (by kernel_rfl)
  refine wpList_w hw fun _ hK => ?_
  unfold Oper.wp execOp
  simp only [ho, hx, hy, Sem.run_bind, g, e, Result.andThen_ok, Sem.run_pure]
  exact hK _ _ h
end
theorem atBin {P : Program} {ops : Array Oper} {Q : Exit → Act → World → Prop} {rest : List Oper} {a : Act} {w : World} {d x y t p af g} (op : BinOp) (ty ty' : TypeId)
    (h : wpList P ops Q (⟨d, .binOp op ty x y ty', t, p, af, g⟩ :: rest) a w) : wpList P ops Q (⟨d, .binOp op ty x y ty', t, p, af, g⟩ :: rest) a w := h
theorem slice_more (ad : Addr) (n c : Nat) (hn : n + 1 ≤ c) (W : World) :
    (Instr.sliceAt 31 (.slice (some ad) n c) none (some (.int .i64 ((n : Int) + 1))) none).run Tryd.prog W = .ok (.slice (some ad) (n + 1) c) W := by
  have h1 : (n : Int) + 1 ≤ c := by omega
  have h2 : ¬ (n : Int) + 1 < 0 := by omega
  go_simp
set_option maxHeartbeats 2000000 in
theorem same_any (w : World) (ad bd : Addr) (n c c' : Nat) (ds : List (List Int)) (hA : D32 w (some ad) n c ds) (hB : D32 w (some bd) n c' ds) :
    Calls Tryd.prog 64 #[.slice (some ad) n c, .slice (some bd) n c'] w fun e w' => e = .returned (.bool true) ∧ Below w.heap.size w w' := by
  have hr := hA.room
  have hf := hA.fits
  go_enter Tryd.func64, Tryd.ntmps64
  go_wp2_with fail
  go_loopw [5] (fun i wr => ∃ k : Nat, k ≤ n ∧ i = .int .i64 k ∧ Below w.heap.size w wr) (fun i _ => n - (intOf i).toNat)
  case atStart => exact ⟨0, by omega, rfl, Below.refl _ _⟩
  case round =>
    obtain ⟨k, hk, rfl, hb⟩ := hrel
    by_cases hlt : k < n
    · have sA : At8 wr.drew (ad.add (k * 32)) (ds.getD k []) := (hA.below hb.drew).at k hlt
      have sB : At8 wr.drew (bd.add (k * 32)) (ds.getD k []) := (hB.below hb.drew).at k hlt
      obtain ⟨hl, hby⟩ := hA.get k hlt
      have hiA : ∀ W : World, (Instr.indexAt 31 (.slice (some ad) n c) (.int .i64 k)).run Tryd.prog W = .ok (.pointer (some (ad.add (k * 32)))) W := fun W => index_at ad n c k hlt W
      have hiB : ∀ W : World, (Instr.indexAt 31 (.slice (some bd) n c') (.int .i64 k)).run Tryd.prog W = .ok (.pointer (some (bd.add (k * 32)))) W := fun W => index_at bd n c' k hlt W
      generalize ds.getD k [] = D at *
      generalize ad.add (k * 32) = pa at *
      generalize bd.add (k * 32) = pb at *
      have hb' := hb.drew
      go_wp2_with fail
      have SX := And.intro sA sB
      refine wp_region_noPanic ?_
      refine wp_region_held (S := fun W => At8 W pa D ∧ At8 W pb D) follows ?_
      refine wpAnyH_take (i := 0) (v := .slice (some ad) n c) rfl (by kernel_rfl) (by kernel_rfl) (by kernel_rfl) (fun _ _ _ h => h) (.inl ⟨rfl, fun W _ => by go_simp⟩) SX ?_
      simp only [Act.put, List.getElem_toArray, List.getElem_cons_zero, List.getElem_cons_succ, List.setIfInBounds_toArray, List.set_cons_zero, List.set_cons_succ]
      refine wpAnyH_take (i := 1) (v := .int .i64 k) rfl (by kernel_rfl) (by kernel_rfl) (by kernel_rfl) (fun _ _ _ h => h) (.inl ⟨rfl, fun W _ => by go_simp⟩) SX ?_
      simp only [Act.put, List.getElem_toArray, List.getElem_cons_zero, List.getElem_cons_succ, List.setIfInBounds_toArray, List.set_cons_zero, List.set_cons_succ]
      refine wpAnyH_take (i := 2) (v := .pointer (some pa)) rfl (by kernel_rfl) (by kernel_rfl) (by kernel_rfl) (fun _ _ _ h => h) (.inl ⟨rfl, fun W _ => by have e := hiA W; go_simp⟩) SX ?_
      simp only [Act.put, List.getElem_toArray, List.getElem_cons_zero, List.getElem_cons_succ, List.setIfInBounds_toArray, List.set_cons_zero, List.set_cons_succ]
      refine wpAnyH_take (i := 3) (v := .agg (A8 D)) rfl (by kernel_rfl) (by kernel_rfl) (by kernel_rfl) (fun _ _ _ h => h) (yields_at rfl (.tmp 19) rfl pa rfl D hl (fun W hW => hW.1)) SX ?_
      simp only [Act.put, List.getElem_toArray, List.getElem_cons_zero, List.getElem_cons_succ, List.setIfInBounds_toArray, List.set_cons_zero, List.set_cons_succ]
      refine wpAnyH_take (i := 4) (v := .slice (some bd) n c') rfl (by kernel_rfl) (by kernel_rfl) (by kernel_rfl) (fun _ _ _ h => h) (.inl ⟨rfl, fun W _ => by go_simp⟩) SX ?_
      simp only [Act.put, List.getElem_toArray, List.getElem_cons_zero, List.getElem_cons_succ, List.setIfInBounds_toArray, List.set_cons_zero, List.set_cons_succ]
      refine wpAnyH_take (i := 5) (v := .int .i64 k) rfl (by kernel_rfl) (by kernel_rfl) (by kernel_rfl) (fun _ _ _ h => h) (.inl ⟨rfl, fun W _ => by go_simp⟩) SX ?_
      simp only [Act.put, List.getElem_toArray, List.getElem_cons_zero, List.getElem_cons_succ, List.setIfInBounds_toArray, List.set_cons_zero, List.set_cons_succ]
      refine wpAnyH_take (i := 6) (v := .pointer (some pb)) rfl (by kernel_rfl) (by kernel_rfl) (by kernel_rfl) (fun _ _ _ h => h) (.inl ⟨rfl, fun W _ => by have e := hiB W; go_simp⟩) SX ?_
      simp only [Act.put, List.getElem_toArray, List.getElem_cons_zero, List.getElem_cons_succ, List.setIfInBounds_toArray, List.set_cons_zero, List.set_cons_succ]
      refine wpAnyH_take (i := 7) (v := .agg (A8 D)) rfl (by kernel_rfl) (by kernel_rfl) (by kernel_rfl) (fun _ _ _ h => h) (yields_at rfl (.tmp 23) rfl pb rfl D hl (fun W hW => hW.2)) SX ?_
      simp only [Act.put, List.getElem_toArray, List.getElem_cons_zero, List.getElem_cons_succ, List.setIfInBounds_toArray, List.set_cons_zero, List.set_cons_succ]
      refine wpAnyH_take (i := 8) (v := .bool (!decide (D = D))) rfl (by kernel_rfl) (by kernel_rfl) (by kernel_rfl) (fun _ _ _ h => h) (yields_neq rfl (.tmp 20) (.tmp 24) rfl D D hl hby hl hby rfl rfl) SX ?_
      simp only [Act.put, List.getElem_toArray, List.getElem_cons_zero, List.getElem_cons_succ, List.setIfInBounds_toArray, List.set_cons_zero, List.set_cons_succ]
      refine wpAnyH_done (by kernel_rfl) ?_ _
      refine NoPanic.normal ?_
      clear SX sA sB hiA hiB
      go_wp2_with fail
      go_roundw
      case rel => exact ⟨k + 1, by omega, by go_num, hb'⟩
      case measure => simp [intOf]; omega
    · go_wp2_with fail
      go_ret
      exact ⟨rfl, hb⟩
theorem num_any (e : Int) (w : World) : Calls Tryd.prog 25 #[.int .i64 e] w fun x w' => x = .returned (.int .i64 e) ∧ w' = w := by
  go_enter Tryd.func25, Tryd.ntmps25
  go_wp2
  go_ret
  exact ⟨rfl, rfl⟩
/-- Digests that were handed in, and what roomyDigests made of them. -/
def PairD (w : World) (v : Value) (p : Option Addr) (n cap : Nat) (ds : List (List Int)) : Prop :=
  (v = .slice none 0 0 ∧ p = none ∧ n = 0 ∧ cap = 0) ∨
  ∃ ad c g, v = .slice (some ad) n c ∧ p = some ⟨g, 0, none⟩ ∧ n ≤ 4398046510976 ∧ n + 1 ≤ cap ∧ g < w.heap.size ∧ D32 w (some ad) n c ds ∧ D32 w (some ⟨g, 0, none⟩) n cap ds ∧ At8 w ⟨g, n * 32, none⟩ TILDE
theorem PairD.below {w w' : World} {v : Value} {p : Option Addr} {n cap : Nat} {ds : List (List Int)} (h : PairD w v p n cap ds) (hb : Below w.heap.size w w') : PairD w' v p n cap ds := by
  rcases h with h | ⟨ad, c, g, h1, h2, h3, h4, h5, h6, h7, h8⟩
  · exact .inl h
  · exact .inr ⟨ad, c, g, h1, h2, h3, h4, Nat.lt_of_lt_of_le h5 hb.size, h6.below hb, h7.below hb, fun j hj => by rw [hb.cell (block_lt_of_cell (h8 j hj))]; exact h8 j hj⟩
theorem keptD_nil (w : World) : Calls Tryd.prog 24 #[.slice none 0 0, .slice none 0 0] w fun e w' => e = .returned (.bool true) ∧ w' = w := by
  have hq := eql_nilD none 0 0 w
  go_enter Tryd.func24, Tryd.ntmps24
  go_wp2
  go_ret
  exact ⟨rfl, rfl⟩
theorem TILDE_bytes : Bytes TILDE := .of fun x hx => by
  have h : x = 126 ∨ x ∈ List.replicate 31 (0 : Int) := List.mem_cons.1 hx
  rcases h with h | h
  · omega
  · have := List.eq_of_mem_replicate h
    omega
set_option maxHeartbeats 1000000 in
theorem keptD_some (ad : Addr) (g n c cap : Nat) (ds : List (List Int)) (w : World) (hn : n ≤ 4398046510976) (hc : n + 1 ≤ cap) (hA : D32 w (some ad) n c ds) (hB : D32 w (some ⟨g, 0, none⟩) n cap ds) (hM : At8 w ⟨g, n * 32, none⟩ TILDE) :
    Calls Tryd.prog 24 #[.slice (some ⟨g, 0, none⟩) n cap, .slice (some ad) n c] w fun e w' => e = .returned (.bool true) ∧ Below w.heap.size w w' := by
  have hq := eql_nilD (some ad) n c w
  have hr := hB.room
  go_enter Tryd.func24, Tryd.ntmps24
  go_wp2_with fail
  refine (same_any w ⟨g, 0, none⟩ ad n cap c ds hB hA).mono ?_
  rintro e w1 ⟨rfl, b1⟩
  have HM : Hid (At8 w1 ⟨g, n * 32, none⟩ TILDE) := fun j hj => by rw [b1.cell (block_lt_of_cell (hM j hj))]; exact hM j hj
  have hsl : ∀ W : World, (Instr.sliceAt 31 (.slice (some ⟨g, 0, none⟩) n cap) none (some (.int .i64 ((n : Int) + 1))) none).run Tryd.prog W = .ok (.slice (some ⟨g, 0, none⟩) (n + 1) cap) W := fun W => slice_more ⟨g, 0, none⟩ n cap (by omega) W
  have hia : ∀ W : World, (Instr.indexAt 31 (.slice (some ⟨g, 0, none⟩) (n + 1) cap) (.int .i64 n)).run Tryd.prog W = .ok (.pointer (some ⟨g, n * 32, none⟩)) W := fun W => by
    rw [index_at ⟨g, 0, none⟩ (n + 1) cap n (by omega) W, addr_add, Nat.zero_add]
  clear hq hM hA hB
  go_wp2_with (first
    | (with_reducible refine atLoad 25 ?_
       refine load_at rfl _ rfl ⟨g, n * 32, none⟩ rfl TILDE rfl HM.out ?_)
    | (with_reducible refine atBin .eql 25 25 ?_
       refine wpList_eql rfl _ _ rfl TILDE TILDE rfl TILDE_bytes rfl TILDE_bytes rfl rfl ?_))
  go_ret
  exact ⟨rfl, b1⟩
end Go.Proofs.YtcmjlhcpoajbkaaDoor
