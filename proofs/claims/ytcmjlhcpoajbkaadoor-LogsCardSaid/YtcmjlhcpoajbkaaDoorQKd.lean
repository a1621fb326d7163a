import Derived.Test.YtcmjlhcpoajbkaaDoorQDs
namespace Go.Proofs.YtcmjlhcpoajbkaaDoor
set_option maxRecDepth 10000
open Go.RowKit
theorem info25' : ∃ i, Tryd.prog.info? 25 = some i ∧ i.zero = some (.agg Z8x32) ∧ i.size = 32 ∧ i.bytes = 32 := ⟨_, rfl, by kernel_rfl, by kernel_rfl, by kernel_rfl⟩
/-- The cells of a row of digests. -/
def F8 (ds : List (List Int)) : List Value := ds.flatten.map (Value.int .u8)
theorem flat_len (ds : List (List Int)) (h : ∀ d ∈ ds, d.length = 32) : ds.flatten.length = ds.length * 32 := by
  induction ds with
  | nil => rfl
  | cons d r ih =>
    rw [List.flatten_cons, List.length_append, ih (fun x hx => h x (List.mem_cons_of_mem _ hx)), h d List.mem_cons_self, List.length_cons]
    omega
theorem flat_get (ds : List (List Int)) (h : ∀ d ∈ ds, d.length = 32) : ∀ (k j : Nat), k < ds.length → j < 32 → ds.flatten[k * 32 + j]? = some ((ds.getD k []).getD j 0) := by
  induction ds with
  | nil => intro k j hk; simp at hk
  | cons d r ih =>
    intro k j hk hj
    have hd := h d List.mem_cons_self
    rw [List.flatten_cons]
    cases k with
    | zero =>
      rw [List.getElem?_append_left (by omega), Nat.zero_mul, Nat.zero_add, List.getElem?_eq_getElem (by omega)]
      simp [List.getD_eq_getElem?_getD, hd, hj]
    | succ k =>
      rw [List.getElem?_append_right (by omega), hd, show (k + 1) * 32 + j - 32 = k * 32 + j by omega, ih (fun x hx => h x (List.mem_cons_of_mem _ hx)) k j (by simpa using hk) hj]
      simp [List.getD_eq_getElem?_getD]
theorem F8_len (ds : List (List Int)) (h : ∀ d ∈ ds, d.length = 32) : (F8 ds).length = ds.length * 32 := by
  rw [F8, List.length_map, flat_len ds h]
theorem F8_get (ds : List (List Int)) (h : ∀ d ∈ ds, d.length = 32) (j : Nat) (u : Value) (hu : (F8 ds)[j]? = some u) : j < ds.length * 32 ∧ u = .int .u8 ((ds.getD (j / 32) []).getD (j % 32) 0) := by
  have hj : j < (F8 ds).length := by
    rcases Nat.lt_or_ge j (F8 ds).length with h' | h'
    · exact h'
    · rw [List.getElem?_eq_none h'] at hu; cases hu
  rw [F8_len ds h] at hj
  refine ⟨hj, ?_⟩
  have e : j = j / 32 * 32 + j % 32 := by omega
  rw [F8, List.getElem?_map, e, flat_get ds h (j / 32) (j % 32) (by omega) (by omega)] at hu
  simp only [Option.map_some, Option.some.injEq] at hu
  rw [← hu]
theorem F8_append (a b : List (List Int)) : F8 (a ++ b) = F8 a ++ F8 b := by simp [F8]
theorem wpList_app25 {ops : Array Oper} {rest : List Oper} {o : Oper} {a : Act} {Q : Exit → Act → World → Prop} {w : World} (hgd : o.guard = none) (s x : Operand)
    (ho : o.op = .call { callee := .builtin .append, args := #[s, x], argTypes := #[31, 31] }) (B : Nat) (v : Value) (l : List (List Int)) (n : Nat) (hs : a.eval s = v)
    (hown : Hid (w.ownsRow B 25 32 v n (F8 l))) (ad : Addr) (m c : Nat) (ys : List (List Int)) (hx : a.eval x = .slice (some ad) m c) (hl : ys.length = m) (h32 : ∀ d ∈ ys, d.length = 32)
    (hnews : ∀ k, k < m → ∀ j, j < 32 → w.cell? (ad.add (k * 32 + j)) = some (.int .u8 ((ys.getD k []).getD j 0))) (hm : 0 < m) (hn : n + m ≤ 4398046511104) (hB : B ≤ w.heap.size)
    (h : ∀ v' w', Hid (w'.ownsRow B 25 32 v' (n + m) (F8 (l ++ ys))) → w.heap.size ≤ w'.heap.size → (∀ w0, Below B w0 w → Below B w0 w') → wpList Tryd.prog ops Q rest (a.put o.dst v') w') : wpList Tryd.prog ops Q (o :: rest) a w := by
  obtain ⟨i, hi, hz, hsz, hby⟩ := info25'
  refine wpList_append_lies w hgd s x 31 ho B 25 i (.agg Z8x32) 32 32 Tryd.underlying31 hi hz hsz hby rfl (by omega) v n _ hs hown.out ad m c (F8 ys) hx (by rw [F8_len ys h32, hl]) (fun j u hu => ?_) (fun u hu => ?_) hm (by unfold maxLen; omega) (by omega) hB _ rfl ?_
  · obtain ⟨hj, rfl⟩ := F8_get ys h32 j u hu
    have := hnews (j / 32) (by omega) (j % 32) (by omega)
    rwa [show j / 32 * 32 + j % 32 = j by omega] at this
  · simp only [F8, List.mem_map] at hu; obtain ⟨y, _, rfl⟩ := hu; rfl
  · intro g cap w' h1 h2 h3 h4
    refine h _ w' (by rw [F8_append]; exact h1) h2.size (fun w0 hb => hb.grown h2 hB (fun k hk => ?_))
    rcases hown.out.2 with ⟨rfl, _⟩ | ⟨g', c', cur, rfl, hg', _⟩
    · cases hk
    · simp only [Value.ownBlock, Option.some.injEq] at hk; omega
theorem owns25 {w : World} {B : Nat} {v : Value} {l : List (List Int)} {n : Nat} (h : w.ownsRow B 25 32 v n (F8 l)) (h32 : ∀ d ∈ l, d.length = 32) (hn : 0 < n) :
    ∃ g cap, v = .slice (some ⟨g, 0, none⟩) n cap ∧ B ≤ g ∧ g < w.heap.size ∧ n ≤ cap ∧ cap ≤ maxLen ∧ l.length = n ∧ ∀ k, k < n → ∀ j, j < 32 → w.cell? ⟨g, k * 32 + j, none⟩ = some (.int .u8 ((l.getD k []).getD j 0)) := by
  obtain ⟨hl, ⟨_, h0⟩ | ⟨g, cap, cur, rfl, hg, hh, hc, hm, hs, ht⟩⟩ := h
  · omega
  · have hl' : l.length = n := by rw [F8_len l h32] at hl; omega
    refine ⟨g, cap, rfl, hg, row_lt hh, hc, hm, hl', fun k hk j hj => ?_⟩
    rw [cell_of_row _ _ _ _ _ _ hh]
    have e := congrArg (fun z : List Value => z[k * 32 + j]?) ht
    simp only [List.getElem?_take, F8, List.getElem?_map] at e
    rw [if_pos (by omega), flat_get l h32 k j (by omega) hj] at e
    rw [← Array.getElem?_toList, e]
    rfl
end Go.Proofs.YtcmjlhcpoajbkaaDoor
namespace Go.Proofs.YtcmjlhcpoajbkaaDoor
set_option maxRecDepth 10000
set_option linter.unusedSimpArgs false
open Go.RowKit
open Extern.Stop (cell)
theorem A8_cells (D : List Int) (hb : Bytes D) : A8 D = ((toU D).map cell).toArray := by
  conv => lhs; rw [← toI_toU D hb]
  unfold A8 toI
  rw [List.map_map]
  rfl
theorem toU_inj {D E : List Int} (hD : Bytes D) (hE : Bytes E) : (toU D == toU E) = decide (D = E) := by
  by_cases h : D = E
  · subst h; simp
  · have : ¬ toU D = toU E := fun e => h (by rw [← toI_toU D hD, ← toI_toU E hE, e])
    simp [h, this]
theorem eql_D (D E : List Int) (hl : D.length = 32) (hb : Bytes D) (hl' : E.length = 32) (hb' : Bytes E) (w : World) : (binOp .eql 25 (.agg (A8 D)) (.agg (A8 E))).run Tryd.prog w = .ok (.bool (decide (D = E))) w := by
  have h := run_eql_bytes (P := Tryd.prog) w 25 5 32 und25 Tryd.underlying5 Tryd.sizeOf5 (toU D) (toU E) (by rw [toU_len, hl]) (by rw [toU_len, hl'])
  rw [A8_cells D hb, A8_cells E hb', h, toU_inj hb hb']
theorem neq_D (D E : List Int) (hl : D.length = 32) (hb : Bytes D) (hl' : E.length = 32) (hb' : Bytes E) (w : World) : (binOp .neq 25 (.agg (A8 D)) (.agg (A8 E))).run Tryd.prog w = .ok (.bool (!decide (D = E))) w := by
  have h := run_equalIn_bytes (P := Tryd.prog) w 9998 25 5 32 und25 Tryd.underlying5 Tryd.sizeOf5 (toU D) (toU E) (by rw [toU_len, hl]) (by rw [toU_len, hl'])
  rw [A8_cells D hb, A8_cells E hb', run_neq_struct, h, toU_inj hb hb']
  rfl
section
variable {ops : Array Oper} {rest : List Oper} {o : Oper} {a : Act} {w : World} {Q : Exit → Act → World → Prop} {S : World → Prop}
theorem yields_neq (hw : Region.wanted o (yielded ops a.tmps) = true) (x y : Operand) (ho : o.op = .binOp .neq 25 x y 25) (D E : List Int) (hl : D.length = 32) (hb : Bytes D) (hl' : E.length = 32) (hb' : Bytes E)
    (hx : a.eval x = .agg (A8 D)) (hy : a.eval y = .agg (A8 E)) : YieldsIf Tryd.prog ops S o (.bool (!decide (D = E))) a :=
  .inl ⟨hw, fun w _ => by
    have e := neq_D D E hl hb hl' hb' w
    have g := run_eqGuard_agg (P := Tryd.prog) w .neq 25 x y (A8 D) (A8 E) (by kernel_rfl)
    unfold execOp
    simp only [ho, hx, hy, Sem.run_bind, g, e, Result.andThen_ok, Sem.run_pure]⟩
/-- The operation of '==' on two digests, in a plain region. -/
theorem wpList_eql (hw : Region.wanted o (yielded ops a.tmps) = true) (x y : Operand) (ho : o.op = .binOp .eql 25 x y 25) (D E : List Int) (hl : D.length = 32) (hb : Bytes D) (hl' : E.length = 32) (hb' : Bytes E)
    (hx : a.eval x = .agg (A8 D)) (hy : a.eval y = .agg (A8 E)) (h : wpList Tryd.prog ops Q rest (a.put o.dst (.bool (decide (D = E)))) w) : wpList Tryd.prog ops Q (o :: rest) a w := by
  have e := eql_D D E hl hb hl' hb' w
  have g := run_eqGuard_agg (P := Tryd.prog) w .eql 25 x y (A8 D) (A8 E) (by kernel_rfl)
  refine wpList_w hw fun _ hK => ?_
  unfold Oper.wp execOp
  simp only [ho, hx, hy, Sem.run_bind, g, e, Result.andThen_ok, Sem.run_pure]
  exact hK _ _ h
end
theorem atBin {P : Program} {ops : Array Oper} {Q : Exit → Act → World → Prop} {rest : List Oper} {a : Act} {w : World} {d x y t p af g} (op : BinOp) (ty ty' : TypeId)
    (h : wpList P ops Q (⟨d, .binOp op ty x y ty', t, p, af, g⟩ :: rest) a w) : wpList P ops Q (⟨d, .binOp op ty x y ty', t, p, af, g⟩ :: rest) a w := h
set_option maxHeartbeats 2000000 in
theorem same_any (w : World) (ad bd : Addr) (n c c' : Nat) (ds : List (List Int)) (hA : D32 w (some ad) n c ds) (hB : D32 w (some bd) n c' ds) :
    Calls Tryd.prog 64 #[.slice (some ad) n c, .slice (some bd) n c'] w fun e w' => e = .returned (.bool true) ∧ Below w.heap.size w w' := by
  have hr := hA.room
  have hf := hA.fits
  go_enter Tryd.func64, Tryd.ntmps64
  go_wp2_with fail
  go_loopw [5] (fun i wr => ∃ k : Nat, k ≤ n ∧ i = .int .i64 k ∧ Below w.heap.size w wr) (fun i _ => n - (intOf i).toNat)
  case atStart => exact ⟨0, by omega, rfl, Below.refl _ _⟩
  case round =>
    obtain ⟨k, hk, rfl, hb⟩ := hrel
    by_cases hlt : k < n
    · have sA : At8 wr.drew (ad.add (k * 32)) (ds.getD k []) := (hA.below hb.drew).at k hlt
      have sB : At8 wr.drew (bd.add (k * 32)) (ds.getD k []) := (hB.below hb.drew).at k hlt
      obtain ⟨hl, hby⟩ := hA.get k hlt
      have hiA : ∀ W : World, (Instr.indexAt 31 (.slice (some ad) n c) (.int .i64 k)).run Tryd.prog W = .ok (.pointer (some (ad.add (k * 32)))) W := fun W => index_at ad n c k hlt W
      have hiB : ∀ W : World, (Instr.indexAt 31 (.slice (some bd) n c') (.int .i64 k)).run Tryd.prog W = .ok (.pointer (some (bd.add (k * 32)))) W := fun W => index_at bd n c' k hlt W
      generalize ds.getD k [] = D at *
      generalize ad.add (k * 32) = pa at *
      generalize bd.add (k * 32) = pb at *
      have hb' := hb.drew
      go_wp2_with fail
      have SX := And.intro sA sB
      refine wp_region_noPanic ?_
      refine wp_region_held (S := fun W => At8 W pa D ∧ At8 W pb D) follows ?_
      refine wpAnyH_take (i := 0) (v := .slice (some ad) n c) rfl (by kernel_rfl) (by kernel_rfl) (by kernel_rfl) (fun _ _ _ h => h) (.inl ⟨rfl, fun W _ => by go_simp⟩) SX ?_
      simp only [Act.put, List.getElem_toArray, List.getElem_cons_zero, List.getElem_cons_succ, List.setIfInBounds_toArray, List.set_cons_zero, List.set_cons_succ]
      refine wpAnyH_take (i := 1) (v := .int .i64 k) rfl (by kernel_rfl) (by kernel_rfl) (by kernel_rfl) (fun _ _ _ h => h) (.inl ⟨rfl, fun W _ => by go_simp⟩) SX ?_
      simp only [Act.put, List.getElem_toArray, List.getElem_cons_zero, List.getElem_cons_succ, List.setIfInBounds_toArray, List.set_cons_zero, List.set_cons_succ]
      refine wpAnyH_take (i := 2) (v := .pointer (some pa)) rfl (by kernel_rfl) (by kernel_rfl) (by kernel_rfl) (fun _ _ _ h => h) (.inl ⟨rfl, fun W _ => by have e := hiA W; go_simp⟩) SX ?_
      simp only [Act.put, List.getElem_toArray, List.getElem_cons_zero, List.getElem_cons_succ, List.setIfInBounds_toArray, List.set_cons_zero, List.set_cons_succ]
      refine wpAnyH_take (i := 3) (v := .agg (A8 D)) rfl (by kernel_rfl) (by kernel_rfl) (by kernel_rfl) (fun _ _ _ h => h) (yields_at rfl (.tmp 19) rfl pa rfl D hl (fun W hW => hW.1)) SX ?_
      simp only [Act.put, List.getElem_toArray, List.getElem_cons_zero, List.getElem_cons_succ, List.setIfInBounds_toArray, List.set_cons_zero, List.set_cons_succ]
      refine wpAnyH_take (i := 4) (v := .slice (some bd) n c') rfl (by kernel_rfl) (by kernel_rfl) (by kernel_rfl) (fun _ _ _ h => h) (.inl ⟨rfl, fun W _ => by go_simp⟩) SX ?_
      simp only [Act.put, List.getElem_toArray, List.getElem_cons_zero, List.getElem_cons_succ, List.setIfInBounds_toArray, List.set_cons_zero, List.set_cons_succ]
      refine wpAnyH_take (i := 5) (v := .int .i64 k) rfl (by kernel_rfl) (by kernel_rfl) (by kernel_rfl) (fun _ _ _ h => h) (.inl ⟨rfl, fun W _ => by go_simp⟩) SX ?_
      simp only [Act.put, List.getElem_toArray, List.getElem_cons_zero, List.getElem_cons_succ, List.setIfInBounds_toArray, List.set_cons_zero, List.set_cons_succ]
      refine wpAnyH_take (i := 6) (v := .pointer (some pb)) rfl (by kernel_rfl) (by kernel_rfl) (by kernel_rfl) (fun _ _ _ h => h) (.inl ⟨rfl, fun W _ => by have e := hiB W; go_simp⟩) SX ?_
      simp only [Act.put, List.getElem_toArray, List.getElem_cons_zero, List.getElem_cons_succ, List.setIfInBounds_toArray, List.set_cons_zero, List.set_cons_succ]
      refine wpAnyH_take (i := 7) (v := .agg (A8 D)) rfl (by kernel_rfl) (by kernel_rfl) (by kernel_rfl) (fun _ _ _ h => h) (yields_at rfl (.tmp 23) rfl pb rfl D hl (fun W hW => hW.2)) SX ?_
      simp only [Act.put, List.getElem_toArray, List.getElem_cons_zero, List.getElem_cons_succ, List.setIfInBounds_toArray, List.set_cons_zero, List.set_cons_succ]
      refine wpAnyH_take (i := 8) (v := .bool (!decide (D = D))) rfl (by kernel_rfl) (by kernel_rfl) (by kernel_rfl) (fun _ _ _ h => h) (yields_neq rfl (.tmp 20) (.tmp 24) rfl D D hl hby hl hby rfl rfl) SX ?_
      simp only [Act.put, List.getElem_toArray, List.getElem_cons_zero, List.getElem_cons_succ, List.setIfInBounds_toArray, List.set_cons_zero, List.set_cons_succ]
      refine wpAnyH_done (by kernel_rfl) ?_ _
      refine NoPanic.normal ?_
      clear SX sA sB hiA hiB
      go_wp2_with fail
      go_roundw
      case rel => exact ⟨k + 1, by omega, by go_num, hb'⟩
      case measure => simp [intOf]; omega
    · go_wp2_with fail
      go_ret
      exact ⟨rfl, hb⟩
theorem num_any (e : Int) (w : World) : Calls Tryd.prog 25 #[.int .i64 e] w fun x w' => x = .returned (.int .i64 e) ∧ w' = w := by
  go_enter Tryd.func25, Tryd.ntmps25
  go_wp2
  go_ret
  exact ⟨rfl, rfl⟩
end Go.Proofs.YtcmjlhcpoajbkaaDoor
