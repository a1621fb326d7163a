import Derived.Test.YtcmjlhcpoajbkaaDoorQDs
import Derived.Test.YtcmjlhcpoajbkaaDoorQCa
namespace Go.Proofs.YtcmjlhcpoajbkaaDoor
set_option maxRecDepth 10000
open Go.RowKit
theorem info25' : ∃ i, Tryd.prog.info? 25 = some i ∧ i.zero = some (.agg Z8x32) ∧ i.size = 32 ∧ i.bytes = 32 := ⟨_, rfl, by kernel_rfl, by kernel_rfl, by kernel_rfl⟩
/-- The cells of a row of digests. -/
def F8 (ds : List (List Int)) : List Value := ds.flatten.map (Value.int .u8)
theorem flat_len (ds : List (List Int)) (h : ∀ d ∈ ds, d.length = 32) : ds.flatten.length = ds.length * 32 := by
  induction ds with
  | nil => rfl
  | cons d r ih =>
    rw [List.flatten_cons, List.length_append, ih (fun x hx => h x (List.mem_cons_of_mem _ hx)), h d List.mem_cons_self, List.length_cons]
    omega
theorem flat_get (ds : List (List Int)) (h : ∀ d ∈ ds, d.length = 32) : ∀ (k j : Nat), k < ds.length → j < 32 → ds.flatten[k * 32 + j]? = some ((ds.getD k []).getD j 0) := by
  induction ds with
  | nil => intro k j hk; simp at hk
  | cons d r ih =>
    intro k j hk hj
    have hd := h d List.mem_cons_self
    rw [List.flatten_cons]
    cases k with
    | zero =>
      rw [List.getElem?_append_left (by omega), Nat.zero_mul, Nat.zero_add, List.getElem?_eq_getElem (by omega)]
      simp [List.getD_eq_getElem?_getD, hd, hj]
    | succ k =>
      rw [List.getElem?_append_right (by omega), hd, show (k + 1) * 32 + j - 32 = k * 32 + j by omega, ih (fun x hx => h x (List.mem_cons_of_mem _ hx)) k j (by simpa using hk) hj]
      simp [List.getD_eq_getElem?_getD]
theorem F8_len (ds : List (List Int)) (h : ∀ d ∈ ds, d.length = 32) : (F8 ds).length = ds.length * 32 := by
  rw [F8, List.length_map, flat_len ds h]
theorem F8_get (ds : List (List Int)) (h : ∀ d ∈ ds, d.length = 32) (j : Nat) (u : Value) (hu : (F8 ds)[j]? = some u) : j < ds.length * 32 ∧ u = .int .u8 ((ds.getD (j / 32) []).getD (j % 32) 0) := by
  have hj : j < (F8 ds).length := by
    rcases Nat.lt_or_ge j (F8 ds).length with h' | h'
    · exact h'
    · rw [List.getElem?_eq_none h'] at hu; cases hu
  rw [F8_len ds h] at hj
  refine ⟨hj, ?_⟩
  have e : j = j / 32 * 32 + j % 32 := by omega
  rw [F8, List.getElem?_map, e, flat_get ds h (j / 32) (j % 32) (by omega) (by omega)] at hu
  simp only [Option.map_some, Option.some.injEq] at hu
  rw [← hu]
theorem F8_append (a b : List (List Int)) : F8 (a ++ b) = F8 a ++ F8 b := by simp [F8]
theorem wpList_app25 {ops : Array Oper} {rest : List Oper} {o : Oper} {a : Act} {Q : Exit → Act → World → Prop} {w : World} (hgd : o.guard = none) (s x : Operand)
    (ho : o.op = .call { callee := .builtin .append, args := #[s, x], argTypes := #[31, 31] }) (B : Nat) (v : Value) (l : List (List Int)) (n : Nat) (hs : a.eval s = v)
    (hown : Hid (w.ownsRow B 25 32 v n (F8 l))) (ad : Addr) (m c : Nat) (ys : List (List Int)) (hx : a.eval x = .slice (some ad) m c) (hl : ys.length = m) (h32 : ∀ d ∈ ys, d.length = 32)
    (hnews : ∀ k, k < m → ∀ j, j < 32 → w.cell? (ad.add (k * 32 + j)) = some (.int .u8 ((ys.getD k []).getD j 0))) (hm : 0 < m) (hn : n + m ≤ 4398046511104) (hB : B ≤ w.heap.size)
    (h : ∀ v' w', Hid (w'.ownsRow B 25 32 v' (n + m) (F8 (l ++ ys))) → w.heap.size ≤ w'.heap.size → (∀ w0, Below B w0 w → Below B w0 w') → wpList Tryd.prog ops Q rest (a.put o.dst v') w') : wpList Tryd.prog ops Q (o :: rest) a w := by
  obtain ⟨i, hi, hz, hsz, hby⟩ := info25'
  refine wpList_append_lies w hgd s x 31 ho B 25 i (.agg Z8x32) 32 32 Tryd.underlying31 hi hz hsz hby rfl (by omega) v n _ hs hown.out ad m c (F8 ys) hx (by rw [F8_len ys h32, hl]) (fun j u hu => ?_) (fun u hu => ?_) hm (by unfold maxLen; omega) (by omega) hB _ rfl ?_
  · obtain ⟨hj, rfl⟩ := F8_get ys h32 j u hu
    have := hnews (j / 32) (by omega) (j % 32) (by omega)
    rwa [show j / 32 * 32 + j % 32 = j by omega] at this
  · simp only [F8, List.mem_map] at hu; obtain ⟨y, _, rfl⟩ := hu; rfl
  · intro g cap w' h1 h2 h3 h4
    refine h _ w' (by rw [F8_append]; exact h1) h2.size (fun w0 hb => hb.grown h2 hB (fun k hk => ?_))
    rcases hown.out.2 with ⟨rfl, _⟩ | ⟨g', c', cur, rfl, hg', _⟩
    · cases hk
    · simp only [Value.ownBlock, Option.some.injEq] at hk; omega
def TILDE : List Int := 126 :: List.replicate 31 0
theorem owns25 {w : World} {B : Nat} {v : Value} {l : List (List Int)} {n : Nat} (h : w.ownsRow B 25 32 v n (F8 l)) (h32 : ∀ d ∈ l, d.length = 32) (hn : 0 < n) :
    ∃ g cap, v = .slice (some ⟨g, 0, none⟩) n cap ∧ B ≤ g ∧ g < w.heap.size ∧ n ≤ cap ∧ cap ≤ maxLen ∧ l.length = n ∧ ∀ k, k < n → ∀ j, j < 32 → w.cell? ⟨g, k * 32 + j, none⟩ = some (.int .u8 ((l.getD k []).getD j 0)) := by
  obtain ⟨hl, ⟨_, h0⟩ | ⟨g, cap, cur, rfl, hg, hh, hc, hm, hs, ht⟩⟩ := h
  · omega
  · have hl' : l.length = n := by rw [F8_len l h32] at hl; omega
    refine ⟨g, cap, rfl, hg, row_lt hh, hc, hm, hl', fun k hk j hj => ?_⟩
    rw [cell_of_row _ _ _ _ _ _ hh]
    have e := congrArg (fun z : List Value => z[k * 32 + j]?) ht
    simp only [List.getElem?_take, F8, List.getElem?_map] at e
    rw [if_pos (by omega), flat_get l h32 k j (by omega) hj] at e
    rw [← Array.getElem?_toList, e]
    rfl
/-- What roomyDigests makes. -/
structure RoomyD (w w' : World) (g n cap : Nat) (ds : List (List Int)) : Prop where
  new : w.heap.size ≤ g
  fits : n + 1 ≤ cap
  most : cap ≤ 9223372036854775807
  here : g < w'.heap.size
  cells : ∀ k, k < n → ∀ j, j < 32 → w'.cell? ⟨g, k * 32 + j, none⟩ = some (.int .u8 ((ds.getD k []).getD j 0))
  mark : ∀ j, j < 32 → w'.cell? ⟨g, n * 32 + j, none⟩ = some (.int .u8 (TILDE.getD j 0))
  below : Below w.heap.size w w'
theorem eql_nilD (a : Option Addr) (l c : Nat) (w : World) : (binOp .eql 31 (.slice a l c) (.slice none 0 0)).run Tryd.prog w = .ok (.bool a.isNone) w := by
  simp only [binOp]
  simp [run_equal_slice_nil w 31 25 a l c Tryd.underlying31]
theorem roomyD_nil (w : World) : Calls Tryd.prog 21 #[.slice none 0 0] w fun e w' => e = .returned (.slice none 0 0) ∧ w' = w := by
  have hq := eql_nilD none 0 0 w
  go_enter Tryd.func21, Tryd.ntmps21
  go_wp2
  go_ret
  exact ⟨rfl, rfl⟩
theorem tilde_cells (w : World) (W : World) (h : W.heap[w.heap.size]? = some (.cells (A8 TILDE) 25)) : ∀ k, k < 1 → ∀ j, j < 32 → W.cell? ((⟨w.heap.size, 0, none⟩ : Addr).add (k * 32 + j)) = some (.int .u8 (([TILDE].getD k []).getD j 0)) := fun k hk j hj => by
  have e : k = 0 := by omega
  subst e
  rw [addr_add, cell_of_row _ _ _ _ _ _ h, Nat.zero_mul, Nat.zero_add, Nat.zero_add, A8_get _ _ (by show j < 32; omega)]
  rfl
set_option maxHeartbeats 1000000 in
theorem roomyD_some (ad : Addr) (n cap : Nat) (ds : List (List Int)) (w : World) (hD : D32 w (some ad) n cap ds) (hn : n ≤ 4398046510976) :
    Calls Tryd.prog 21 #[.slice (some ad) n cap] w fun e w' => ∃ g cap', e = .returned (.slice (some ⟨g, 0, none⟩) n cap') ∧ RoomyD w w' g n cap' ds := by
  have hq := eql_nilD (some ad) n cap w
  have h32 : ∀ d ∈ ds, d.length = 32 := fun d hd => (hD.all d hd).1
  have hl := hD.len
  have hT : ∀ d ∈ [TILDE], d.length = 32 := fun d hd => by simp only [List.mem_singleton] at hd; subst hd; rfl
  have h32' : ∀ d ∈ ds ++ [TILDE], d.length = 32 := fun d hd => by
    rcases List.mem_append.1 hd with h | h
    · exact h32 d h
    · exact hT d h
  by_cases h0 : 0 < n
  · obtain ⟨ad', hp, _, hc⟩ := hD.lies h0
    cases hp
    have HC : Hid _ := hc
    clear hc
    go_enter Tryd.func21, Tryd.ntmps21
    go_wp2_with (first
      | (at_builtin
         refine wpList_app25 rfl (.const (.slice none 0 0)) (.tmp 5) rfl w.heap.size (.slice none 0 0) [] 0 rfl ⟨rfl, .inl ⟨rfl, rfl⟩⟩ ad n cap ds rfl hl h32 HC.out h0 (by omega) (Nat.le_refl _) ?_
         intro v1 w1 ho1 hs1 hb1
         refine hideGoal ?_))
    clear hq
    have hbw := hb1 w (Below.refl _ _)
    have HO1 : Hid (w1.ownsRow w.heap.size 25 32 v1 n (F8 ds)) := by
      have h := ho1.out
      rw [Nat.zero_add, List.nil_append] at h
      exact h
    clear ho1 hb1
    refine openGoal ?_
    go_wp2_with (first
      | (at_builtin
         refine wpList_app25 rfl (.tmp 6) (.tmp 8) rfl w.heap.size v1 ds n rfl (owns_alloc8 HO1.out _) ⟨w1.heap.size, 0, none⟩ 1 1 [TILDE] rfl rfl hT (tilde_cells w1 _ (heapN w1 _ _ rfl)) (by omega) (by omega) (by simp; omega) ?_
         intro v2 w2 ho2 hs2 hb2
         refine hideGoal ?_))
    obtain ⟨g, cap', rfl, hg, hgs, hfit, hmost, _, hcells⟩ := owns25 ho2.out h32' (by omega)
    unfold maxLen at hmost
    have hR : RoomyD w w2 g n cap' ds := by
      refine ⟨hg, hfit, by omega, hgs, fun k hk j hj => ?_, fun j hj => ?_, hb2 w (hbw.alloc hs1 _)⟩
      · rw [hcells k (by omega) j hj]
        rw [List.getD_eq_getElem?_getD (l := ds ++ [TILDE]), List.getElem?_append_left (by omega), ← List.getD_eq_getElem?_getD]
      · rw [hcells n (by omega) j hj]
        rw [List.getD_eq_getElem?_getD (l := ds ++ [TILDE]), List.getElem?_append_right (by omega), hl, Nat.sub_self]
        rfl
    clear ho2 hb2 hcells HO1 hbw HC
    refine openGoal ?_
    go_wp2_with fail
    go_ret
    exact ⟨g, cap', rfl, hR⟩
  · have hn0 : n = 0 := by omega
    subst hn0
    have hds : ds = [] := List.length_eq_zero_iff.1 hl
    subst hds
    go_enter Tryd.func21, Tryd.ntmps21
    go_wp2_with (first
      | (at_builtin
         refine wpList_app25 rfl (.tmp 6) (.tmp 8) rfl w.heap.size (.slice none 0 0) [] 0 rfl ⟨rfl, .inl ⟨rfl, rfl⟩⟩ ⟨w.heap.size, 0, none⟩ 1 1 [TILDE] rfl rfl hT (tilde_cells w _ (heapN w _ _ rfl)) (by omega) (by omega) (by simp) ?_
         intro v2 w2 ho2 hs2 hb2
         refine hideGoal ?_))
    obtain ⟨g, cap', rfl, hg, hgs, hfit, hmost, _, hcells⟩ := owns25 ho2.out h32' (by omega)
    unfold maxLen at hmost
    have hR : RoomyD w w2 g 0 cap' [] := by
      refine ⟨hg, hfit, by omega, hgs, fun k hk j hj => ?_, fun j hj => ?_, hb2 w ((Below.refl _ _).alloc (Nat.le_refl _) _)⟩
      · rw [hcells k (by omega) j hj]
        rw [List.getD_eq_getElem?_getD (l := [] ++ [TILDE]), List.getElem?_append_left (by omega), ← List.getD_eq_getElem?_getD]
      · rw [hcells 0 (by omega) j hj]
        rw [List.getD_eq_getElem?_getD (l := [] ++ [TILDE]), List.getElem?_append_right (by omega), hl, Nat.sub_self]
        rfl
    clear ho2 hb2 hcells hq
    refine openGoal ?_
    go_wp2_with fail
    go_ret
    exact ⟨g, cap', rfl, hR⟩
end Go.Proofs.YtcmjlhcpoajbkaaDoor
namespace Go.Proofs.YtcmjlhcpoajbkaaDoor
set_option maxRecDepth 10000
set_option linter.unusedSimpArgs false
open Go.RowKit
open Extern.Stop (cell)
theorem A8_cells (D : List Int) (hb : Bytes D) : A8 D = ((toU D).map cell).toArray := by
  conv => lhs; rw [← toI_toU D hb]
  unfold A8 toI
  rw [List.map_map]
  rfl
theorem toU_inj {D E : List Int} (hD : Bytes D) (hE : Bytes E) : (toU D == toU E) = decide (D = E) := by
  by_cases h : D = E
  · subst h; simp
  · have : ¬ toU D = toU E := fun e => h (by rw [← toI_toU D hD, ← toI_toU E hE, e])
    simp [h, this]
theorem eql_D (D E : List Int) (hl : D.length = 32) (hb : Bytes D) (hl' : E.length = 32) (hb' : Bytes E) (w : World) : (binOp .eql 25 (.agg (A8 D)) (.agg (A8 E))).run Tryd.prog w = .ok (.bool (decide (D = E))) w := by
  have h := run_eql_bytes (P := Tryd.prog) w 25 5 32 und25 Tryd.underlying5 Tryd.sizeOf5 (toU D) (toU E) (by rw [toU_len, hl]) (by rw [toU_len, hl'])
  rw [A8_cells D hb, A8_cells E hb', h, toU_inj hb hb']
theorem neq_D (D E : List Int) (hl : D.length = 32) (hb : Bytes D) (hl' : E.length = 32) (hb' : Bytes E) (w : World) : (binOp .neq 25 (.agg (A8 D)) (.agg (A8 E))).run Tryd.prog w = .ok (.bool (!decide (D = E))) w := by
  have h := run_equalIn_bytes (P := Tryd.prog) w 9998 25 5 32 und25 Tryd.underlying5 Tryd.sizeOf5 (toU D) (toU E) (by rw [toU_len, hl]) (by rw [toU_len, hl'])
  rw [A8_cells D hb, A8_cells E hb', run_neq_struct, h, toU_inj hb hb']
  rfl
section
variable {ops : Array Oper} {rest : List Oper} {o : Oper} {a : Act} {w : World} {Q : Exit → Act → World → Prop} {S : World → Prop}
theorem yields_eql (hw : Region.wanted o (yielded ops a.tmps) = true) (x y : Operand) (ho : o.op = .binOp .eql 25 x y 25) (D E : List Int) (hl : D.length = 32) (hb : Bytes D) (hl' : E.length = 32) (hb' : Bytes E)
    (hx : a.eval x = .agg (A8 D)) (hy : a.eval y = .agg (A8 E)) : YieldsIf Tryd.prog ops S o (.bool (decide (D = E))) a :=
  .inl ⟨hw, fun w _ => by
    have e := eql_D D E hl hb hl' hb' w
    have g := run_eqGuard_agg (P := Tryd.prog) w .eql 25 x y (A8 D) (A8 E) (by kernel_rfl)
    unfold execOp
    simp only [ho, hx, hy, Sem.run_bind, g, e, Result.andThen_ok, Sem.run_pure]⟩
theorem yields_neq (hw : Region.wanted o (yielded ops a.tmps) = true) (x y : Operand) (ho : o.op = .binOp .neq 25 x y 25) (D E : List Int) (hl : D.length = 32) (hb : Bytes D) (hl' : E.length = 32) (hb' : Bytes E)
    (hx : a.eval x = .agg (A8 D)) (hy : a.eval y = .agg (A8 E)) : YieldsIf Tryd.prog ops S o (.bool (!decide (D = E))) a :=
  .inl ⟨hw, fun w _ => by
    have e := neq_D D E hl hb hl' hb' w
    have g := run_eqGuard_agg (P := Tryd.prog) w .neq 25 x y (A8 D) (A8 E) (by kernel_rfl)
    unfold execOp
    simp only [ho, hx, hy, Sem.run_bind, g, e, Result.andThen_ok, Sem.run_pure]⟩
/-- The operation of '==' on two digests, in a plain region. -/
theorem wpList_eql (hw : Region.wanted o (yielded ops a.tmps) = true) (x y : Operand) (ho : o.op = .binOp .eql 25 x y 25) (D E : List Int) (hl : D.length = 32) (hb : Bytes D) (hl' : E.length = 32) (hb' : Bytes E)
    (hx : a.eval x = .agg (A8 D)) (hy : a.eval y = .agg (A8 E)) (h : wpList Tryd.prog ops Q rest (a.put o.dst (.bool (decide (D = E)))) w) : wpList Tryd.prog ops Q (o :: rest) a w := by
  have e := eql_D D E hl hb hl' hb' w
  have g := run_eqGuard_agg (P := Tryd.prog) w .eql 25 x y (A8 D) (A8 E) (by kernel_rfl)
  refine wpList_w hw fun _ hK => ?_
  unfold Oper.wp execOp
  simp only [ho, hx, hy, Sem.run_bind, g, e, Result.andThen_ok, Sem.run_pure]
  exact hK _ _ h
end
theorem atBin {P : Program} {ops : Array Oper} {Q : Exit → Act → World → Prop} {rest : List Oper} {a : Act} {w : World} {d x y t p af g} (op : BinOp) (ty ty' : TypeId)
    (h : wpList P ops Q (⟨d, .binOp op ty x y ty', t, p, af, g⟩ :: rest) a w) : wpList P ops Q (⟨d, .binOp op ty x y ty', t, p, af, g⟩ :: rest) a w := h
theorem slice_more (ad : Addr) (n c : Nat) (hn : n + 1 ≤ c) (W : World) :
    (Instr.sliceAt 31 (.slice (some ad) n c) none (some (.int .i64 ((n : Int) + 1))) none).run Tryd.prog W = .ok (.slice (some ad) (n + 1) c) W := by
  have h1 : (n : Int) + 1 ≤ c := by omega
  have h2 : ¬ (n : Int) + 1 < 0 := by omega
  go_simp
set_option maxHeartbeats 2000000 in
theorem same_any (w : World) (ad bd : Addr) (n c c' : Nat) (ds : List (List Int)) (hA : D32 w (some ad) n c ds) (hB : D32 w (some bd) n c' ds) :
    Calls Tryd.prog 64 #[.slice (some ad) n c, .slice (some bd) n c'] w fun e w' => e = .returned (.bool true) ∧ Below w.heap.size w w' := by
  have hr := hA.room
  have hf := hA.fits
  go_enter Tryd.func64, Tryd.ntmps64
  go_wp2_with fail
  go_loopw [5] (fun i wr => ∃ k : Nat, k ≤ n ∧ i = .int .i64 k ∧ Below w.heap.size w wr) (fun i _ => n - (intOf i).toNat)
  case atStart => exact ⟨0, by omega, rfl, Below.refl _ _⟩
  case round =>
    obtain ⟨k, hk, rfl, hb⟩ := hrel
    by_cases hlt : k < n
    · have sA : At8 wr.drew (ad.add (k * 32)) (ds.getD k []) := (hA.below hb.drew).at k hlt
      have sB : At8 wr.drew (bd.add (k * 32)) (ds.getD k []) := (hB.below hb.drew).at k hlt
      obtain ⟨hl, hby⟩ := hA.get k hlt
      have hiA : ∀ W : World, (Instr.indexAt 31 (.slice (some ad) n c) (.int .i64 k)).run Tryd.prog W = .ok (.pointer (some (ad.add (k * 32)))) W := fun W => index_at ad n c k hlt W
      have hiB : ∀ W : World, (Instr.indexAt 31 (.slice (some bd) n c') (.int .i64 k)).run Tryd.prog W = .ok (.pointer (some (bd.add (k * 32)))) W := fun W => index_at bd n c' k hlt W
      generalize ds.getD k [] = D at *
      generalize ad.add (k * 32) = pa at *
      generalize bd.add (k * 32) = pb at *
      have hb' := hb.drew
      go_wp2_with fail
      have SX := And.intro sA sB
      refine wp_region_noPanic ?_
      refine wp_region_held (S := fun W => At8 W pa D ∧ At8 W pb D) follows ?_
      refine wpAnyH_take (i := 0) (v := .slice (some ad) n c) rfl (by kernel_rfl) (by kernel_rfl) (by kernel_rfl) (fun _ _ _ h => h) (.inl ⟨rfl, fun W _ => by go_simp⟩) SX ?_
      simp only [Act.put, List.getElem_toArray, List.getElem_cons_zero, List.getElem_cons_succ, List.setIfInBounds_toArray, List.set_cons_zero, List.set_cons_succ]
      refine wpAnyH_take (i := 1) (v := .int .i64 k) rfl (by kernel_rfl) (by kernel_rfl) (by kernel_rfl) (fun _ _ _ h => h) (.inl ⟨rfl, fun W _ => by go_simp⟩) SX ?_
      simp only [Act.put, List.getElem_toArray, List.getElem_cons_zero, List.getElem_cons_succ, List.setIfInBounds_toArray, List.set_cons_zero, List.set_cons_succ]
      refine wpAnyH_take (i := 2) (v := .pointer (some pa)) rfl (by kernel_rfl) (by kernel_rfl) (by kernel_rfl) (fun _ _ _ h => h) (.inl ⟨rfl, fun W _ => by have e := hiA W; go_simp⟩) SX ?_
      simp only [Act.put, List.getElem_toArray, List.getElem_cons_zero, List.getElem_cons_succ, List.setIfInBounds_toArray, List.set_cons_zero, List.set_cons_succ]
      refine wpAnyH_take (i := 3) (v := .agg (A8 D)) rfl (by kernel_rfl) (by kernel_rfl) (by kernel_rfl) (fun _ _ _ h => h) (yields_at rfl (.tmp 19) rfl pa rfl D hl (fun W hW => hW.1)) SX ?_
      simp only [Act.put, List.getElem_toArray, List.getElem_cons_zero, List.getElem_cons_succ, List.setIfInBounds_toArray, List.set_cons_zero, List.set_cons_succ]
      refine wpAnyH_take (i := 4) (v := .slice (some bd) n c') rfl (by kernel_rfl) (by kernel_rfl) (by kernel_rfl) (fun _ _ _ h => h) (.inl ⟨rfl, fun W _ => by go_simp⟩) SX ?_
      simp only [Act.put, List.getElem_toArray, List.getElem_cons_zero, List.getElem_cons_succ, List.setIfInBounds_toArray, List.set_cons_zero, List.set_cons_succ]
      refine wpAnyH_take (i := 5) (v := .int .i64 k) rfl (by kernel_rfl) (by kernel_rfl) (by kernel_rfl) (fun _ _ _ h => h) (.inl ⟨rfl, fun W _ => by go_simp⟩) SX ?_
      simp only [Act.put, List.getElem_toArray, List.getElem_cons_zero, List.getElem_cons_succ, List.setIfInBounds_toArray, List.set_cons_zero, List.set_cons_succ]
      refine wpAnyH_take (i := 6) (v := .pointer (some pb)) rfl (by kernel_rfl) (by kernel_rfl) (by kernel_rfl) (fun _ _ _ h => h) (.inl ⟨rfl, fun W _ => by have e := hiB W; go_simp⟩) SX ?_
      simp only [Act.put, List.getElem_toArray, List.getElem_cons_zero, List.getElem_cons_succ, List.setIfInBounds_toArray, List.set_cons_zero, List.set_cons_succ]
      refine wpAnyH_take (i := 7) (v := .agg (A8 D)) rfl (by kernel_rfl) (by kernel_rfl) (by kernel_rfl) (fun _ _ _ h => h) (yields_at rfl (.tmp 23) rfl pb rfl D hl (fun W hW => hW.2)) SX ?_
      simp only [Act.put, List.getElem_toArray, List.getElem_cons_zero, List.getElem_cons_succ, List.setIfInBounds_toArray, List.set_cons_zero, List.set_cons_succ]
      refine wpAnyH_take (i := 8) (v := .bool (!decide (D = D))) rfl (by kernel_rfl) (by kernel_rfl) (by kernel_rfl) (fun _ _ _ h => h) (yields_neq rfl (.tmp 20) (.tmp 24) rfl D D hl hby hl hby rfl rfl) SX ?_
      simp only [Act.put, List.getElem_toArray, List.getElem_cons_zero, List.getElem_cons_succ, List.setIfInBounds_toArray, List.set_cons_zero, List.set_cons_succ]
      refine wpAnyH_done (by kernel_rfl) ?_ _
      refine NoPanic.normal ?_
      clear SX sA sB hiA hiB
      go_wp2_with fail
      go_roundw
      case rel => exact ⟨k + 1, by omega, by go_num, hb'⟩
      case measure => simp [intOf]; omega
    · go_wp2_with fail
      go_ret
      exact ⟨rfl, hb⟩
theorem num_any (e : Int) (w : World) : Calls Tryd.prog 25 #[.int .i64 e] w fun x w' => x = .returned (.int .i64 e) ∧ w' = w := by
  go_enter Tryd.func25, Tryd.ntmps25
  go_wp2
  go_ret
  exact ⟨rfl, rfl⟩
/-- Digests that were handed in, and what roomyDigests made of them. -/
def PairD (w : World) (v : Value) (p : Option Addr) (n cap : Nat) (ds : List (List Int)) : Prop :=
  (v = .slice none 0 0 ∧ p = none ∧ n = 0 ∧ cap = 0) ∨
  ∃ ad c g, v = .slice (some ad) n c ∧ p = some ⟨g, 0, none⟩ ∧ n ≤ 4398046510976 ∧ n + 1 ≤ cap ∧ g < w.heap.size ∧ D32 w (some ad) n c ds ∧ D32 w (some ⟨g, 0, none⟩) n cap ds ∧ At8 w ⟨g, n * 32, none⟩ TILDE
theorem PairD.below {w w' : World} {v : Value} {p : Option Addr} {n cap : Nat} {ds : List (List Int)} (h : PairD w v p n cap ds) (hb : Below w.heap.size w w') : PairD w' v p n cap ds := by
  rcases h with h | ⟨ad, c, g, h1, h2, h3, h4, h5, h6, h7, h8⟩
  · exact .inl h
  · exact .inr ⟨ad, c, g, h1, h2, h3, h4, Nat.lt_of_lt_of_le h5 hb.size, h6.below hb, h7.below hb, fun j hj => by rw [hb.cell (block_lt_of_cell (h8 j hj))]; exact h8 j hj⟩
theorem keptD_nil (w : World) : Calls Tryd.prog 24 #[.slice none 0 0, .slice none 0 0] w fun e w' => e = .returned (.bool true) ∧ w' = w := by
  have hq := eql_nilD none 0 0 w
  go_enter Tryd.func24, Tryd.ntmps24
  go_wp2
  go_ret
  exact ⟨rfl, rfl⟩
theorem TILDE_bytes : Bytes TILDE := .of fun x hx => by
  have h : x = 126 ∨ x ∈ List.replicate 31 (0 : Int) := List.mem_cons.1 hx
  rcases h with h | h
  · omega
  · have := List.eq_of_mem_replicate h
    omega
set_option maxHeartbeats 1000000 in
theorem keptD_some (ad : Addr) (g n c cap : Nat) (ds : List (List Int)) (w : World) (hn : n ≤ 4398046510976) (hc : n + 1 ≤ cap) (hA : D32 w (some ad) n c ds) (hB : D32 w (some ⟨g, 0, none⟩) n cap ds) (hM : At8 w ⟨g, n * 32, none⟩ TILDE) :
    Calls Tryd.prog 24 #[.slice (some ⟨g, 0, none⟩) n cap, .slice (some ad) n c] w fun e w' => e = .returned (.bool true) ∧ Below w.heap.size w w' := by
  have hq := eql_nilD (some ad) n c w
  have hr := hB.room
  go_enter Tryd.func24, Tryd.ntmps24
  go_wp2_with fail
  refine (same_any w ⟨g, 0, none⟩ ad n cap c ds hB hA).mono ?_
  rintro e w1 ⟨rfl, b1⟩
  have HM : Hid (At8 w1 ⟨g, n * 32, none⟩ TILDE) := fun j hj => by rw [b1.cell (block_lt_of_cell (hM j hj))]; exact hM j hj
  have hsl : ∀ W : World, (Instr.sliceAt 31 (.slice (some ⟨g, 0, none⟩) n cap) none (some (.int .i64 ((n : Int) + 1))) none).run Tryd.prog W = .ok (.slice (some ⟨g, 0, none⟩) (n + 1) cap) W := fun W => slice_more ⟨g, 0, none⟩ n cap (by omega) W
  have hia : ∀ W : World, (Instr.indexAt 31 (.slice (some ⟨g, 0, none⟩) (n + 1) cap) (.int .i64 n)).run Tryd.prog W = .ok (.pointer (some ⟨g, n * 32, none⟩)) W := fun W => by
    rw [index_at ⟨g, 0, none⟩ (n + 1) cap n (by omega) W, addr_add, Nat.zero_add]
  clear hq hM hA hB
  go_wp2_with (first
    | (with_reducible refine atLoad 25 ?_
       refine load_at rfl _ rfl ⟨g, n * 32, none⟩ rfl TILDE rfl HM.out ?_)
    | (with_reducible refine atBin .eql 25 25 ?_
       refine wpList_eql rfl _ _ rfl TILDE TILDE rfl TILDE_bytes rfl TILDE_bytes rfl rfl ?_))
  go_ret
  exact ⟨rfl, b1⟩
end Go.Proofs.YtcmjlhcpoajbkaaDoor
namespace Go.Proofs.YtcmjlhcpoajbkaaDoor
set_option maxRecDepth 10000
open Go.RowKit
/-- Digests that were handed in. -/
def DArg (w : World) (v : Value) (ds : List (List Int)) : Prop :=
  (v = .slice none 0 0 ∧ ds = []) ∨ ∃ ad n cap, v = .slice (some ad) n cap ∧ n ≤ 4398046510976 ∧ D32 w (some ad) n cap ds
theorem DArg.below {w w' : World} {v : Value} {ds : List (List Int)} (h : DArg w v ds) (hb : Below w.heap.size w w') : DArg w' v ds := by
  rcases h with h | ⟨ad, n, cap, h1, h2, h3⟩
  · exact .inl h
  · exact .inr ⟨ad, n, cap, h1, h2, h3.below hb⟩
theorem d32_nil (w : World) : D32 w none 0 0 [] := ⟨rfl, fun d hd => by simp at hd, by omega, by omega, fun h => by omega⟩
theorem DArg.d32 {w : World} {v : Value} {ds : List (List Int)} (h : DArg w v ds) : ∃ p n cap, v = .slice p n cap ∧ D32 w p n cap ds := by
  rcases h with ⟨rfl, rfl⟩ | ⟨ad, n, cap, h1, h2, h3⟩
  · exact ⟨none, 0, 0, rfl, d32_nil w⟩
  · exact ⟨some ad, n, cap, h1, h3⟩
theorem roomyD_any {w : World} {v : Value} {ds : List (List Int)} (h : DArg w v ds) :
    Calls Tryd.prog 21 #[v] w fun e w' => ∃ p n cap, e = .returned (.slice p n cap) ∧ Below w.heap.size w w' ∧ PairD w' v p n cap ds ∧ D32 w' p n cap ds := by
  rcases h with ⟨rfl, rfl⟩ | ⟨ad, n, cap, rfl, h2, h3⟩
  · refine (roomyD_nil w).mono fun e w' ⟨he, hw⟩ => ?_
    subst hw
    exact ⟨none, 0, 0, he, Below.refl _ _, .inl ⟨rfl, rfl, rfl, rfl⟩, d32_nil _⟩
  · refine (roomyD_some ad n cap ds w h3 h2).mono fun e w' ⟨g, cap', he, hR⟩ => ?_
    have hD : D32 w' (some ⟨g, 0, none⟩) n cap' ds := ⟨h3.len, h3.all, by have := hR.fits; omega, hR.most, fun _ => ⟨_, rfl, hR.here, fun k hk j hj => by rw [addr_add, Nat.zero_add]; exact hR.cells k hk j hj⟩⟩
    exact ⟨_, n, cap', he, hR.below, .inr ⟨ad, cap, g, rfl, rfl, h2, hR.fits, hR.here, h3.below hR.below, hD, fun j hj => by rw [addr_add]; exact hR.mark j hj⟩, hD⟩
theorem keptD_any {w : World} {v : Value} {p : Option Addr} {n cap : Nat} {ds : List (List Int)} (h : PairD w v p n cap ds) :
    Calls Tryd.prog 24 #[.slice p n cap, v] w fun e w' => e = .returned (.bool true) ∧ Below w.heap.size w w' := by
  rcases h with ⟨rfl, rfl, rfl, rfl⟩ | ⟨ad, c, g, rfl, rfl, h3, h4, h5, h6, h7, h8⟩
  · exact (keptD_nil w).mono fun e w' ⟨he, hw⟩ => ⟨he, by rw [hw]; exact Below.refl _ _⟩
  · exact keptD_some ad g n c cap ds w h3 h4 h6 h7 h8
set_option maxHeartbeats 4000000 in
theorem climbs_any (v0 v3 : Value) (i n : Int) (xs : List Int) (ds : List (List Int)) (w : World) (hT : Tabs KS HS w) (h0 : Arg w v0 xs) (h3 : DArg w v3 ds) (hi : i ≤ 9223372036854775807) (hn : n ≤ 9223372036854775807) :
    Calls Tryd.prog 4 #[v0, .int .i64 i, .int .i64 n, v3] w fun e w' => e = .returned (.bool true) ∧ Below w.heap.size w w' := by
  have hsm := h0.small
  have hxb := h0.bytes
  have H0 : Hid (Arg w v0 xs) := h0
  have H3 : Hid (DArg w v3 ds) := h3
  have HTb : Hid (Tabs KS HS w) := hT
  clear h0 h3 hT
  go_enter Tryd.func4, Tryd.ntmps4
  go_wp2_with fail
  refine (roomy_any H0.out).mono ?_
  rintro e w1 ⟨p, ne, cap, rfl, b1, hP0, hI0⟩
  have HP0 : Hid (Pair w1 v0 p ne cap xs) := hP0
  have HI0 : Hid (In8 w1 p ne cap xs) := hI0
  clear hP0 hI0
  go_wp2_with fail
  refine (roomyD_any (H3.out.below b1)).mono ?_
  rintro e w2 ⟨q, m, cap', rfl, b2, hP3, hD3⟩
  have B2 := b1.trans (b2.mono b1.size)
  have HP0' : Hid (Pair w2 v0 p ne cap xs) := HP0.out.below b2
  have HI0' : Hid (In8 w2 p ne cap xs) := HI0.out.below b2
  have HP3 : Hid (PairD w2 v3 q m cap' ds) := hP3
  have HD3 : Hid (D32 w2 q m cap' ds) := hD3
  have hne : ne < 140737488355328 := by have := HI0.out.len; omega
  clear hP3 hD3 HP0 HI0 b1 b2
  go_wp2_with fail
  refine (annalClimb_any xs p ne cap hne i n q m cap' ds w2 (HTb.out.below B2) HI0'.out HD3.out hi hn).mono ?_
  rintro e w3 ⟨rfl, b3⟩
  obtain ⟨hl, hb⟩ := climbOut_ok xs i n ds
  have HO : Hid (climbOut xs i n ds = climbOut xs i n ds) := rfl
  have B3 := B2.trans (b3.mono B2.size)
  have HP0 : Hid (Pair w3 v0 p ne cap xs) := HP0'.out.below b3
  have HP3' : Hid (PairD w3 v3 q m cap' ds) := HP3.out.below b3
  have n3 : Hid (Dg (w3.alloc (.cells Z8x32 25)) w3.heap.size Z32) := Dg.new w3 _ rfl
  obtain ⟨O, hO⟩ : ∃ O, climbOut xs i n ds = O := ⟨_, rfl⟩
  have HOO : Hid (climbOut xs i n ds = O) := hO
  rw [hO] at hl hb ⊢
  clear hO b3 HP0' HP3 HD3 HI0' HO
  obtain ⟨D, f⟩ := O
  have hs3 := B3.size
  go_wp2_with (first
    | (with_reducible refine atStore 25 ?_
       refine store_D rfl _ _ rfl w3.heap.size D rfl rfl Z32 n3.out hl ?_
       intro U hU
       refine hideGoal ?_))
  have hAl : Below w3.heap.size w3 U := hU.below _ _ (Nat.le_refl _) ((Below.refl _ _).alloc (Nat.le_refl _) _)
  have BU := B3.trans (hAl.mono hs3)
  have UP0 : Hid (Pair U v0 p ne cap xs) := HP0.out.below hAl
  have UP3 : Hid (PairD U v3 q m cap' ds) := HP3'.out.below hAl
  have uD : Hid (Dg U w3.heap.size D) := hU.dg hl
  have cU := (H0.out.below BU).conv
  clear hU HP0 HP3' n3 B3 hAl
  generalize w3.heap.size = g3 at *
  obtain ⟨p3, m3, c3, hv3, hd3⟩ := (H3.out.below BU).d32
  have HD : Hid (D32 U p3 m3 c3 ds) := hd3
  clear hd3
  subst hv3
  refine openGoal ?_
  go_wp2_with fail
  refine (refClimbs_any (toU xs) xs (toI_toU xs hxb) (by rw [toU_len]; omega) i n p3 m3 c3 ds U HD.out hi hn).mono ?_
  rintro e w4 ⟨rfl, b4⟩
  rw [HOO.out]
  have B4 := BU.trans (b4.mono BU.size)
  have d4 : Hid (Dg w4 g3 D) := uD.out.next b4
  have l4 := d4.out.lt
  have n4 : Hid (Dg (w4.alloc (.cells Z8x32 25)) w4.heap.size Z32) := Dg.new w4 _ rfl
  have P0 : Hid (Pair w4 v0 p ne cap xs) := UP0.out.below b4
  have P3 : Hid (PairD w4 (.slice p3 m3 c3) q m cap' ds) := UP3.out.below b4
  have hs4 := B4.size
  clear b4 UP0 UP3 uD cU BU HD
  go_wp2_with (first
    | (with_reducible refine atStore 25 ?_
       refine store_D rfl _ _ rfl w4.heap.size D rfl rfl Z32 n4.out hl ?_
       intro V hV
       refine hideGoal ?_))
  have hAl : Below w4.heap.size w4 V := hV.below _ _ (Nat.le_refl _) ((Below.refl _ _).alloc (Nat.le_refl _) _)
  have BV := B4.trans (hAl.mono hs4)
  have VP0 : Hid (Pair V v0 p ne cap xs) := P0.out.below hAl
  have VP3 : Hid (PairD V (.slice p3 m3 c3) q m cap' ds) := P3.out.below hAl
  have vA : Hid (Dg V g3 D) := d4.out.next hAl
  have vB : Hid (Dg V w4.heap.size D) := hV.dg hl
  clear hV P0 P3 n4 B4 hAl d4
  generalize w4.heap.size = g4 at *
  refine openGoal ?_
  go_wp2_with fail
  refine (kept_any VP0.out).mono ?_
  rintro e w5 ⟨rfl, hw5⟩
  rw [hw5]
  clear hw5 w5
  go_wp2_with fail
  refine (keptD_any VP3.out).mono ?_
  rintro e w5 ⟨rfl, b5⟩
  have B5 := BV.trans (b5.mono BV.size)
  have eA : Hid (Dg w5 g3 D) := vA.out.next b5
  have eB : Hid (Dg w5 g4 D) := vB.out.next b5
  clear VP0 VP3 vA vB b5 BV
  go_wp2_with (first
    | (with_reducible refine atLoad 25 ?_
       first
         | refine load_D rfl _ rfl g3 rfl D eA.out ?_
         | refine load_D rfl _ rfl g4 rfl D eB.out ?_)
    | (with_reducible refine atBin .eql 25 25 ?_
       refine wpList_eql rfl _ _ rfl D D hl hb hl hb rfl rfl ?_))
  refine (num_any f w5).mono ?_
  rintro e w6 ⟨rfl, rfl⟩
  go_wp2_with fail
  go_ret
  exact ⟨rfl, B5⟩
end Go.Proofs.YtcmjlhcpoajbkaaDoor
