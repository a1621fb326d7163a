import Derived.Test.YtcmjlhcpoajbkaaDoorSame
import Derived.Test.YtcmjlhcpoajbkaaDoorKept
import Derived.Stop.BytesEq
namespace Go.Proofs.YtcmjlhcpoajbkaaDoor
set_option maxRecDepth 10000
open Go.RowKit
open Extern.Stop (cell)
/-- A slice of bytes that was handed in. -/
def Arg (w : World) (v : Value) (xs : List Int) : Prop :=
  (v = .slice none 0 0 ∧ xs = []) ∨ ∃ ad n cap, v = .slice (some ad) n cap ∧ xs.length = n ∧ n ≤ 140737488351232 ∧ Bytes xs ∧ ∀ j, j < n → w.cell? (ad.add j) = some (.int .u8 (xs.getD j 0))
theorem Arg.bytes {w : World} {v : Value} {xs : List Int} (h : Arg w v xs) : Bytes xs := by
  rcases h with ⟨_, rfl⟩ | ⟨_, _, _, _, _, _, h, _⟩
  · intro j; simp
  · exact h
theorem Arg.small {w : World} {v : Value} {xs : List Int} (h : Arg w v xs) : xs.length ≤ 140737488351232 := by
  rcases h with ⟨_, rfl⟩ | ⟨_, _, _, _, h, h2, _⟩
  · simp
  · omega
theorem Arg.below {w w' : World} {v : Value} {xs : List Int} (h : Arg w v xs) (hb : Below w.heap.size w w') : Arg w' v xs := by
  rcases h with h | ⟨ad, n, cap, h1, h2, h3, h4, h5⟩
  · exact .inl h
  · exact .inr ⟨ad, n, cap, h1, h2, h3, h4, fun j hj => by rw [hb.cell (block_lt_of_cell (h5 j hj))]; exact h5 j hj⟩
theorem Arg.conv {w : World} {v : Value} {xs : List Int} (h : Arg w v xs) : (convert 22 9 v).run Tryd.prog w = .ok (.string ⟨(toU xs).toArray⟩) w := by
  rcases h with ⟨rfl, rfl⟩ | ⟨ad, n, cap, rfl, h2, h3, h4, h5⟩
  · rw [run_convert_bytes_nil (P := Tryd.prog) w 22 5 Tryd.underlying22 Tryd.underlying5 0 0 9 Tryd.underlying9]; rfl
  · exact conv_arg xs w ad n cap h2 h5
/-- What was handed in, and what roomy made of it. -/
def Pair (w : World) (v : Value) (p : Option Addr) (n cap : Nat) (xs : List Int) : Prop :=
  (v = .slice none 0 0 ∧ p = none ∧ n = 0 ∧ cap = 0) ∨
  ∃ ad c g, v = .slice (some ad) n c ∧ p = some ⟨g, 0, none⟩ ∧ xs.length = n ∧ n ≤ 140737488351232 ∧ n + 1 ≤ cap ∧ g < w.heap.size ∧
    (∀ j, j < n → w.cell? (ad.add j) = some (.int .u8 (xs.getD j 0))) ∧ (∀ j, j < n → w.cell? ⟨g, j, none⟩ = some (.int .u8 (xs.getD j 0))) ∧ w.cell? ⟨g, n, none⟩ = some (.int .u8 126)
theorem Pair.below {w w' : World} {v : Value} {p : Option Addr} {n cap : Nat} {xs : List Int} (h : Pair w v p n cap xs) (hb : Below w.heap.size w w') : Pair w' v p n cap xs := by
  rcases h with h | ⟨ad, c, g, h1, h2, h3, h4, h5, h6, h7, h8, h9⟩
  · exact .inl h
  · exact .inr ⟨ad, c, g, h1, h2, h3, h4, h5, Nat.lt_of_lt_of_le h6 hb.size, fun j hj => by rw [hb.cell (block_lt_of_cell (h7 j hj))]; exact h7 j hj, fun j hj => by rw [hb.cell (block_lt_of_cell (h8 j hj))]; exact h8 j hj, by rw [hb.cell (block_lt_of_cell h9)]; exact h9⟩
theorem roomy_any {w : World} {v : Value} {xs : List Int} (h : Arg w v xs) :
    Calls Tryd.prog 15 #[v] w fun e w' => ∃ p n cap, e = .returned (.slice p n cap) ∧ Below w.heap.size w w' ∧ Pair w' v p n cap xs ∧ In8 w' p n cap xs := by
  rcases h with ⟨rfl, rfl⟩ | ⟨ad, n, cap, rfl, h2, h3, h4, h5⟩
  · refine (roomy_nil w).mono fun e w' ⟨he, hw⟩ => ?_
    subst hw
    exact ⟨none, 0, 0, he, Below.refl _ _, .inl ⟨rfl, rfl, rfl, rfl⟩, rfl, fun j => by simp, Nat.le_refl _, by omega, by omega, fun h0 => by simp at h0⟩
  · refine (roomy_some ad n cap xs w h2 h3 h5).mono fun e w' ⟨g, cap', he, hR⟩ => ?_
    refine ⟨_, n, cap', he, hR.below, .inr ⟨ad, cap, g, rfl, rfl, h2, h3, hR.fits, hR.here, fun j hj => ?_, hR.cells, hR.mark⟩, h2, h4, by have := hR.fits; omega, hR.most, by omega, fun _ => ⟨g, 0, rfl, hR.here, fun j hj => ?_⟩⟩
    · rw [hR.below.cell (block_lt_of_cell (h5 j hj))]; exact h5 j hj
    · rw [Nat.zero_add]; exact hR.cells j (by omega)
theorem kept_any {w : World} {v : Value} {p : Option Addr} {n cap : Nat} {xs : List Int} (h : Pair w v p n cap xs) :
    Calls Tryd.prog 18 #[.slice p n cap, v] w fun e w' => e = .returned (.bool true) ∧ w' = w := by
  rcases h with ⟨rfl, rfl, rfl, rfl⟩ | ⟨ad, c, g, rfl, rfl, h3, h4, h5, h6, h7, h8, h9⟩
  · exact kept_nil w
  · exact kept_some ad g n c cap xs w h3 h4 h5 h7 h8 h9
theorem eql_same (D : List Int) (hl : D.length = 32) (hb : Bytes D) (w : World) : (binOp .eql 25 (.agg (A8 D)) (.agg (A8 D))).run Tryd.prog w = .ok (.bool true) w := by
  have h := run_eql_bytes (P := Tryd.prog) w 25 5 32 und25 Tryd.underlying5 Tryd.sizeOf5 (toU D) (toU D) (by rw [toU_len, hl]) (by rw [toU_len, hl])
  have e : A8 D = ((toU D).map cell).toArray := by
    conv => lhs; rw [← toI_toU D hb]
    unfold A8 toI
    rw [List.map_map]
    rfl
  rw [e, h]
  simp
theorem yieldsIf_eql {ops : Array Oper} {S : World → Prop} {o : Oper} {a : Act} (hw : Region.wanted o (yielded ops a.tmps) = true) (x y : Operand) (ho : o.op = .binOp .eql 25 x y 25) (D : List Int) (hl : D.length = 32) (hb : Bytes D)
    (hx : a.eval x = .agg (A8 D)) (hy : a.eval y = .agg (A8 D)) : YieldsIf Tryd.prog ops S o (.bool true) a :=
  .inl ⟨hw, fun w _ => by
    have e := eql_same D hl hb w
    have g := run_eqGuard_agg (P := Tryd.prog) w .eql 25 x y (A8 D) (A8 D) (by kernel_rfl)
    unfold execOp
    simp only [ho, hx, hy, Sem.run_bind, g, e, Result.andThen_ok, Sem.run_pure]⟩
section
variable {P : Program} {ops : Array Oper} {Q : Exit → Act → World → Prop} {S : World → Prop}
theorem wpOp_callG {i : Nat} {o : Oper} {K : Act → World → Prop} {a : Act} {w : World} {f : FuncId} {args : Array Value} (hi : ops[i]? = some o) (hw : Region.wanted o (yielded ops a.tmps) = true)
    (hrun : (execOp a.eval o).run P w = .ok (.enter f args) w) (h : Calls P f args w fun e w'' => ∃ v, e = .returned v ∧ K (a.put o.dst v) w'') : wpOp P ops Q i K a w := by
  unfold wpOp
  simp only [hi, hw, if_true]
  refine .inl ?_
  unfold Oper.wp
  rw [hrun]
  exact h.mono fun e w'' ⟨v, he, hk⟩ => by subst he; exact hk
theorem yieldsIf_rowG {o : Oper} {a : Act} (hw : Region.wanted o (yielded ops a.tmps) = true) (ty : TypeId) (x : Operand) (ho : o.op = .load ty x)
    (g : Nat) (hx : a.eval x = .pointer (some ⟨g, 0, none⟩)) (t : TypeId) (cs : Array Value) (fr : Nat × Nat) (d : TypeDesc) (hS : ∀ w, S w → w.heap[g]? = some (.cells cs t fr))
    (hu : P.underlying ty = some d) (hd : (match d with | .struct _ | .array _ _ => true | _ => false) = true) (hi : (P.info? ty).map (·.size) = some cs.size) : YieldsIf P ops S o (.agg cs) a :=
  .inl ⟨hw, fun w hS' => by
    unfold execOp
    simp only [ho, hx, Instr.loadAt, Instr.sureAddr, Sem.run_bind, Sem.run_pure, Result.andThen_ok, run_loadVar_row w g t ty cs fr d (hS w hS') hu hd hi]⟩
end
set_option maxHeartbeats 4000000 in
theorem hashes_any (v0 v1 : Value) (xs ys : List Int) (w : World) (hT : Tabs KS HS w) (h0 : Arg w v0 xs) (h1 : Arg w v1 ys) :
    Calls Tryd.prog 3 #[v0, v1] w fun e w' => e = .returned (.bool true) ∧ Below w.heap.size w w' := by
  have hH : hashP KS HS ys = refHashP (toU ys) := by rw [← hash_same, toI_toU _ h1.bytes]
  have hG : tagP KS HS xs ys = refTagP (toU xs) (toU ys) := by rw [← tag_same, toI_toU _ h0.bytes, toI_toU _ h1.bytes]
  have H0 : Hid (Arg w v0 xs) := h0
  have H1 : Hid (Arg w v1 ys) := h1
  have HTb : Hid (Tabs KS HS w) := hT
  clear h0 h1 hT
  go_enter Tryd.func3, Tryd.ntmps3
  go_wp2_with fail
  refine (roomy_any H0.out).mono ?_
  rintro e w1 ⟨p, n, cap, rfl, b1, hP0, hI0⟩
  have HP0 : Hid (Pair w1 v0 p n cap xs) := hP0
  have HI0 : Hid (In8 w1 p n cap xs) := hI0
  clear hP0 hI0
  go_wp2_with fail
  refine (roomy_any (H1.out.below b1)).mono ?_
  rintro e w2 ⟨p', n', cap', rfl, b2, hP1, hI1⟩
  have B2 := b1.trans (b2.mono b1.size)
  have HP0' : Hid (Pair w2 v0 p n cap xs) := HP0.out.below b2
  have HI0' : Hid (In8 w2 p n cap xs) := HI0.out.below b2
  have HP1 : Hid (Pair w2 v1 p' n' cap' ys) := hP1
  have HI1 : Hid (In8 w2 p' n' cap' ys) := hI1
  clear hP1 hI1 HP0 HI0 b1 b2
  go_wp2_with fail
  refine (annalHash_any KS HS w2 (HTb.out.below B2) p' n' cap' ys HI1.out).mono ?_
  rintro e w3 ⟨rfl, b3⟩
  rw [hH]
  have hDl := refHashP_len (toU ys)
  have hDb := refHashP_bytes (toU ys)
  have HR : Hid (∀ W : World, Calls Tryd.prog 19 #[.string ⟨(toU ys).toArray⟩] W fun e w' => e = .returned (.agg (A8 (refHashP (toU ys)))) ∧ Below W.heap.size W w') :=
    fun W => refHash_p (toU ys) W (by rw [toU_len]; have := H1.out.small; omega)
  generalize refHashP (toU ys) = D at *
  clear hH
  go_wp2_with (first
    | (with_reducible refine atStore 25 ?_
       refine wpList_store_W rfl 25 (.tmp 7) (.tmp 16) rfl w3.heap.size (A8 D) rfl rfl 25 Z8x32 ?_ (by rw [info25, A8_size, hDl]) (by rw [A8_size, hDl]; rfl) (A8_one _) ?_
       · exact heapN w3 _ _ rfl
       intro U hU
       refine hideGoal ?_))
  have hs3 : w2.heap.size ≤ w3.heap.size := b3.size
  have u3 := hU.below w2.heap.size w2 hs3 (b3.alloc hs3 _)
  have ug : Hid (U.heap[w3.heap.size]? = _) := hU.here
  have us : w3.heap.size < U.heap.size := by rw [hU.size]; simp
  clear hU b3
  generalize w3.heap.size = gh at *
  have BU := B2.trans (u3.mono B2.size)
  refine openGoal ?_
  go_wp2_with fail
  refine (annalTag_any KS HS U (HTb.out.below BU) p p' n cap n' cap' xs ys (HI0'.out.below u3) (HI1.out.below u3)).mono ?_
  rintro e w4 ⟨rfl, b4⟩
  rw [hG]
  have hTl : (refTagP (toU xs) (toU ys)).length = 32 := refHashP_len _
  have hTbb : Bytes (refTagP (toU xs) (toU ys)) := refHashP_bytes _
  have HG2 : Hid (∀ W : World, Calls Tryd.prog 20 #[.string ⟨(toU xs).toArray⟩, .string ⟨(toU ys).toArray⟩] W fun e w' => e = .returned (.agg (A8 (refTagP (toU xs) (toU ys)))) ∧ Below W.heap.size W w') :=
    fun W => refTag_any (toU xs) (toU ys) W (by rw [toU_len]; have := H0.out.small; omega) (by rw [toU_len]; have := H1.out.small; omega)
  generalize refTagP (toU xs) (toU ys) = G at *
  clear hG
  go_wp2_with (first
    | (with_reducible refine atStore 25 ?_
       refine wpList_store_W rfl 25 (.tmp 8) (.tmp 19) rfl w4.heap.size (A8 G) rfl rfl 25 Z8x32 ?_ (by rw [info25, A8_size, hTl]) (by rw [A8_size, hTl]; rfl) (A8_one _) ?_
       · exact heapN w4 _ _ rfl
       intro V hV
       refine hideGoal ?_))
  have hs4 : U.heap.size ≤ w4.heap.size := b4.size
  have v3 := hV.below U.heap.size U hs4 (b4.alloc hs4 _)
  have vt : Hid (V.heap[w4.heap.size]? = _) := hV.here
  have vh : Hid (V.heap[gh]? = _) := (v3.block gh us).trans ug.out
  have vs : w4.heap.size < V.heap.size := by rw [hV.size]; simp
  clear hV b4 ug
  generalize w4.heap.size = gt at *
  have BV := BU.trans (v3.mono BU.size)
  have VP0 : Hid (Pair V v0 p n cap xs) := (HP0'.out.below u3).below v3
  have VP1 : Hid (Pair V v1 p' n' cap' ys) := (HP1.out.below u3).below v3
  have VA0 : Hid (Arg V v0 xs) := H0.out.below BV
  have VA1 : Hid (Arg V v1 ys) := H1.out.below BV
  have vsh : gh < V.heap.size := Nat.lt_of_lt_of_le us v3.size
  clear u3 v3 HP0' HP1 HI0' HI1 H0 H1 HTb B2 BU
  refine openGoal ?_
  go_wp2_with fail
  refine (kept_any VP0.out).mono ?_
  rintro e w5 ⟨rfl, hw5⟩
  rw [hw5]
  clear hw5 w5
  go_wp2_with fail
  refine (kept_any VP1.out).mono ?_
  rintro e w5 ⟨rfl, hw5⟩
  rw [hw5]
  clear hw5 w5
  go_wp2_with fail
  have ec : ∀ W : World, Below V.heap.size V W → (convert 22 9 v1).run Tryd.prog W = .ok (.string ⟨(toU ys).toArray⟩) W := fun W hW => (VA1.out.below hW).conv
  have kc : ∀ W : World, Below V.heap.size V W → (convert 22 9 v0).run Tryd.prog W = .ok (.string ⟨(toU xs).toArray⟩) W := fun W hW => (VA0.out.below hW).conv
  have bV : Below V.heap.size V V.drew := (Below.refl _ _).drew
  refine wp_region_noPanic ?_
  refine wp_region_held (S := fun W => Below V.heap.size V W) follows ?_
  refine wpAnyH_take (i := 0) (v := .bool true) rfl (by kernel_rfl) (by kernel_rfl) (by kernel_rfl) (fun _ _ _ h => h) (.inl ⟨rfl, fun W _ => by go_simp⟩) bV ?_
  refine reframe #[true, false, false, false, false, false, false, false, false, false, false, false, false, false, false, false, false, false, false, false, false] { tmps := #[v0, v1, undef, undef, .bool false, .slice p n cap, .slice p' n' cap', .pointer (some ⟨gh, 0, none⟩), .pointer (some ⟨gt, 0, none⟩), .bool true, .bool true, v0, .slice p n cap, v1, .slice p' n' cap', .slice p' n' cap', .agg (A8 D), .slice p n cap, .slice p' n' cap', .agg (A8 G), .slice p n cap, v0, .bool true, .slice p' n' cap', v1, .bool true, .bool true, undef, undef, undef, undef, undef, undef, undef, undef, undef, undef, undef, undef, undef, undef, undef, undef, undef, undef, undef], defers := [] } (by kernel_rfl) (by rfl) ?_
  refine wpAnyH_take (i := 1) (v := .bool true) rfl (by kernel_rfl) (by kernel_rfl) (by kernel_rfl) (fun _ _ _ h => h) (.inl ⟨rfl, fun W _ => by go_simp⟩) bV ?_
  refine reframe #[true, true, false, false, false, false, false, false, false, false, false, false, false, false, false, false, false, false, false, false, false] { tmps := #[v0, v1, undef, undef, .bool false, .slice p n cap, .slice p' n' cap', .pointer (some ⟨gh, 0, none⟩), .pointer (some ⟨gt, 0, none⟩), .bool true, .bool true, v0, .slice p n cap, v1, .slice p' n' cap', .slice p' n' cap', .agg (A8 D), .slice p n cap, .slice p' n' cap', .agg (A8 G), .slice p n cap, v0, .bool true, .slice p' n' cap', v1, .bool true, .bool true, .bool true, undef, undef, undef, undef, undef, undef, undef, undef, undef, undef, undef, undef, undef, undef, undef, undef, undef, undef], defers := [] } (by kernel_rfl) (by rfl) ?_
  refine wpAnyH_take (i := 2) (v := .bool true) rfl (by kernel_rfl) (by kernel_rfl) (by kernel_rfl) (fun _ _ _ h => h) (.inl ⟨rfl, fun W _ => by go_simp⟩) bV ?_
  refine reframe #[true, true, true, false, false, false, false, false, false, false, false, false, false, false, false, false, false, false, false, false, false] { tmps := #[v0, v1, undef, undef, .bool false, .slice p n cap, .slice p' n' cap', .pointer (some ⟨gh, 0, none⟩), .pointer (some ⟨gt, 0, none⟩), .bool true, .bool true, v0, .slice p n cap, v1, .slice p' n' cap', .slice p' n' cap', .agg (A8 D), .slice p n cap, .slice p' n' cap', .agg (A8 G), .slice p n cap, v0, .bool true, .slice p' n' cap', v1, .bool true, .bool true, .bool true, .bool true, undef, undef, undef, undef, undef, undef, undef, undef, undef, undef, undef, undef, undef, undef, undef, undef, undef], defers := [] } (by kernel_rfl) (by rfl) ?_
  refine wpAnyH_take (i := 3) (v := .bool true) rfl (by kernel_rfl) (by kernel_rfl) (by kernel_rfl) (fun _ _ _ h => h) (.inl ⟨rfl, fun W _ => by go_simp⟩) bV ?_
  refine reframe #[true, true, true, true, false, false, false, false, false, false, false, false, false, false, false, false, false, false, false, false, false] { tmps := #[v0, v1, undef, undef, .bool false, .slice p n cap, .slice p' n' cap', .pointer (some ⟨gh, 0, none⟩), .pointer (some ⟨gt, 0, none⟩), .bool true, .bool true, v0, .slice p n cap, v1, .slice p' n' cap', .slice p' n' cap', .agg (A8 D), .slice p n cap, .slice p' n' cap', .agg (A8 G), .slice p n cap, v0, .bool true, .slice p' n' cap', v1, .bool true, .bool true, .bool true, .bool true, .bool true, undef, undef, undef, undef, undef, undef, undef, undef, undef, undef, undef, undef, undef, undef, undef, undef], defers := [] } (by kernel_rfl) (by rfl) ?_
  refine wpAnyH_take (i := 4) (v := .bool true) rfl (by kernel_rfl) (by kernel_rfl) (by kernel_rfl) (fun _ _ _ h => h) (.inl ⟨rfl, fun W _ => by go_simp⟩) bV ?_
  refine reframe #[true, true, true, true, true, false, false, false, false, false, false, false, false, false, false, false, false, false, false, false, false] { tmps := #[v0, v1, undef, undef, .bool false, .slice p n cap, .slice p' n' cap', .pointer (some ⟨gh, 0, none⟩), .pointer (some ⟨gt, 0, none⟩), .bool true, .bool true, v0, .slice p n cap, v1, .slice p' n' cap', .slice p' n' cap', .agg (A8 D), .slice p n cap, .slice p' n' cap', .agg (A8 G), .slice p n cap, v0, .bool true, .slice p' n' cap', v1, .bool true, .bool true, .bool true, .bool true, .bool true, .bool true, undef, undef, undef, undef, undef, undef, undef, undef, undef, undef, undef, undef, undef, undef, undef], defers := [] } (by kernel_rfl) (by rfl) ?_
  refine wpAnyH_take (i := 5) (v := .agg (A8 D)) rfl (by kernel_rfl) (by kernel_rfl) (by kernel_rfl) (fun _ _ _ h => h) (yieldsIf_rowG rfl 25 (.tmp 7) rfl gh rfl 25 (A8 D) (0, 0) (.array 32 5) (fun W hW => (hW.block gh vsh).trans vh.out) und25 rfl (by rw [info25, A8_size, hDl])) bV ?_
  refine reframe #[true, true, true, true, true, true, false, false, false, false, false, false, false, false, false, false, false, false, false, false, false] { tmps := #[v0, v1, undef, undef, .bool false, .slice p n cap, .slice p' n' cap', .pointer (some ⟨gh, 0, none⟩), .pointer (some ⟨gt, 0, none⟩), .bool true, .bool true, v0, .slice p n cap, v1, .slice p' n' cap', .slice p' n' cap', .agg (A8 D), .slice p n cap, .slice p' n' cap', .agg (A8 G), .slice p n cap, v0, .bool true, .slice p' n' cap', v1, .bool true, .bool true, .bool true, .bool true, .bool true, .bool true, .agg (A8 D), undef, undef, undef, undef, undef, undef, undef, undef, undef, undef, undef, undef, undef, undef], defers := [] } (by kernel_rfl) (by rfl) ?_
  refine wpAnyH_take (i := 6) (v := v1) rfl (by kernel_rfl) (by kernel_rfl) (by kernel_rfl) (fun _ _ _ h => h) (.inl ⟨rfl, fun W _ => by go_simp⟩) bV ?_
  refine reframe #[true, true, true, true, true, true, true, false, false, false, false, false, false, false, false, false, false, false, false, false, false] { tmps := #[v0, v1, undef, undef, .bool false, .slice p n cap, .slice p' n' cap', .pointer (some ⟨gh, 0, none⟩), .pointer (some ⟨gt, 0, none⟩), .bool true, .bool true, v0, .slice p n cap, v1, .slice p' n' cap', .slice p' n' cap', .agg (A8 D), .slice p n cap, .slice p' n' cap', .agg (A8 G), .slice p n cap, v0, .bool true, .slice p' n' cap', v1, .bool true, .bool true, .bool true, .bool true, .bool true, .bool true, .agg (A8 D), v1, undef, undef, undef, undef, undef, undef, undef, undef, undef, undef, undef, undef, undef], defers := [] } (by kernel_rfl) (by rfl) ?_
  refine wpAnyH_take (i := 7) (v := .string ⟨(toU ys).toArray⟩) rfl (by kernel_rfl) (by kernel_rfl) (by kernel_rfl) (fun _ _ _ h => h) (.inl ⟨rfl, fun W hW => by have e := ec W hW; go_simp⟩) bV ?_
  refine reframe #[true, true, true, true, true, true, true, true, false, false, false, false, false, false, false, false, false, false, false, false, false] { tmps := #[v0, v1, undef, undef, .bool false, .slice p n cap, .slice p' n' cap', .pointer (some ⟨gh, 0, none⟩), .pointer (some ⟨gt, 0, none⟩), .bool true, .bool true, v0, .slice p n cap, v1, .slice p' n' cap', .slice p' n' cap', .agg (A8 D), .slice p n cap, .slice p' n' cap', .agg (A8 G), .slice p n cap, v0, .bool true, .slice p' n' cap', v1, .bool true, .bool true, .bool true, .bool true, .bool true, .bool true, .agg (A8 D), v1, .string ⟨(toU ys).toArray⟩, undef, undef, undef, undef, undef, undef, undef, undef, undef, undef, undef, undef], defers := [] } (by kernel_rfl) (by rfl) ?_
  refine any_one (i := 8) (by kernel_rfl) ?_
  refine wpOp_callG (f := 19) (args := #[.string ⟨(toU ys).toArray⟩]) rfl rfl (by go_simp) ?_
  refine (HR.out _).mono ?_
  rintro e w5 ⟨rfl, hb5⟩
  have b5 : Below V.heap.size V w5 := ⟨hb5.os, hb5.tape, hb5.output, hb5.size, hb5.block⟩
  clear hb5
  refine ⟨_, rfl, b5, ?_⟩
  refine reframe #[true, true, true, true, true, true, true, true, true, false, false, false, false, false, false, false, false, false, false, false, false] { tmps := #[v0, v1, undef, undef, .bool false, .slice p n cap, .slice p' n' cap', .pointer (some ⟨gh, 0, none⟩), .pointer (some ⟨gt, 0, none⟩), .bool true, .bool true, v0, .slice p n cap, v1, .slice p' n' cap', .slice p' n' cap', .agg (A8 D), .slice p n cap, .slice p' n' cap', .agg (A8 G), .slice p n cap, v0, .bool true, .slice p' n' cap', v1, .bool true, .bool true, .bool true, .bool true, .bool true, .bool true, .agg (A8 D), v1, .string ⟨(toU ys).toArray⟩, .agg (A8 D), undef, undef, undef, undef, undef, undef, undef, undef, undef, undef, undef], defers := [] } (by kernel_rfl) (by rfl) ?_
  refine wpAnyH_take (i := 9) (v := .bool true) rfl (by kernel_rfl) (by kernel_rfl) (by kernel_rfl) (fun _ _ _ h => h) (yieldsIf_eql rfl (.tmp 31) (.tmp 34) rfl D hDl hDb rfl rfl) b5 ?_
  refine reframe #[true, true, true, true, true, true, true, true, true, true, false, false, false, false, false, false, false, false, false, false, false] { tmps := #[v0, v1, undef, undef, .bool false, .slice p n cap, .slice p' n' cap', .pointer (some ⟨gh, 0, none⟩), .pointer (some ⟨gt, 0, none⟩), .bool true, .bool true, v0, .slice p n cap, v1, .slice p' n' cap', .slice p' n' cap', .agg (A8 D), .slice p n cap, .slice p' n' cap', .agg (A8 G), .slice p n cap, v0, .bool true, .slice p' n' cap', v1, .bool true, .bool true, .bool true, .bool true, .bool true, .bool true, .agg (A8 D), v1, .string ⟨(toU ys).toArray⟩, .agg (A8 D), .bool true, undef, undef, undef, undef, undef, undef, undef, undef, undef, undef], defers := [] } (by kernel_rfl) (by rfl) ?_
  refine wpAnyH_take (i := 10) (v := .bool true) rfl (by kernel_rfl) (by kernel_rfl) (by kernel_rfl) (fun _ _ _ h => h) (.inl ⟨rfl, fun W _ => by go_simp⟩) b5 ?_
  refine reframe #[true, true, true, true, true, true, true, true, true, true, true, false, false, false, false, false, false, false, false, false, false] { tmps := #[v0, v1, undef, undef, .bool false, .slice p n cap, .slice p' n' cap', .pointer (some ⟨gh, 0, none⟩), .pointer (some ⟨gt, 0, none⟩), .bool true, .bool true, v0, .slice p n cap, v1, .slice p' n' cap', .slice p' n' cap', .agg (A8 D), .slice p n cap, .slice p' n' cap', .agg (A8 G), .slice p n cap, v0, .bool true, .slice p' n' cap', v1, .bool true, .bool true, .bool true, .bool true, .bool true, .bool true, .agg (A8 D), v1, .string ⟨(toU ys).toArray⟩, .agg (A8 D), .bool true, .bool true, undef, undef, undef, undef, undef, undef, undef, undef, undef], defers := [] } (by kernel_rfl) (by rfl) ?_
  refine wpAnyH_take (i := 11) (v := .bool true) rfl (by kernel_rfl) (by kernel_rfl) (by kernel_rfl) (fun _ _ _ h => h) (.inl ⟨rfl, fun W _ => by go_simp⟩) b5 ?_
  refine reframe #[true, true, true, true, true, true, true, true, true, true, true, true, false, false, false, false, false, false, false, false, false] { tmps := #[v0, v1, undef, undef, .bool false, .slice p n cap, .slice p' n' cap', .pointer (some ⟨gh, 0, none⟩), .pointer (some ⟨gt, 0, none⟩), .bool true, .bool true, v0, .slice p n cap, v1, .slice p' n' cap', .slice p' n' cap', .agg (A8 D), .slice p n cap, .slice p' n' cap', .agg (A8 G), .slice p n cap, v0, .bool true, .slice p' n' cap', v1, .bool true, .bool true, .bool true, .bool true, .bool true, .bool true, .agg (A8 D), v1, .string ⟨(toU ys).toArray⟩, .agg (A8 D), .bool true, .bool true, .bool true, undef, undef, undef, undef, undef, undef, undef, undef], defers := [] } (by kernel_rfl) (by rfl) ?_
  refine wpAnyH_take (i := 12) (v := .agg (A8 G)) rfl (by kernel_rfl) (by kernel_rfl) (by kernel_rfl) (fun _ _ _ h => h) (yieldsIf_rowG rfl 25 (.tmp 8) rfl gt rfl 25 (A8 G) (0, 0) (.array 32 5) (fun W hW => (hW.block gt vs).trans vt.out) und25 rfl (by rw [info25, A8_size, hTl])) b5 ?_
  refine reframe #[true, true, true, true, true, true, true, true, true, true, true, true, true, false, false, false, false, false, false, false, false] { tmps := #[v0, v1, undef, undef, .bool false, .slice p n cap, .slice p' n' cap', .pointer (some ⟨gh, 0, none⟩), .pointer (some ⟨gt, 0, none⟩), .bool true, .bool true, v0, .slice p n cap, v1, .slice p' n' cap', .slice p' n' cap', .agg (A8 D), .slice p n cap, .slice p' n' cap', .agg (A8 G), .slice p n cap, v0, .bool true, .slice p' n' cap', v1, .bool true, .bool true, .bool true, .bool true, .bool true, .bool true, .agg (A8 D), v1, .string ⟨(toU ys).toArray⟩, .agg (A8 D), .bool true, .bool true, .bool true, .agg (A8 G), undef, undef, undef, undef, undef, undef, undef], defers := [] } (by kernel_rfl) (by rfl) ?_
  refine wpAnyH_take (i := 13) (v := v0) rfl (by kernel_rfl) (by kernel_rfl) (by kernel_rfl) (fun _ _ _ h => h) (.inl ⟨rfl, fun W _ => by go_simp⟩) b5 ?_
  refine reframe #[true, true, true, true, true, true, true, true, true, true, true, true, true, true, false, false, false, false, false, false, false] { tmps := #[v0, v1, undef, undef, .bool false, .slice p n cap, .slice p' n' cap', .pointer (some ⟨gh, 0, none⟩), .pointer (some ⟨gt, 0, none⟩), .bool true, .bool true, v0, .slice p n cap, v1, .slice p' n' cap', .slice p' n' cap', .agg (A8 D), .slice p n cap, .slice p' n' cap', .agg (A8 G), .slice p n cap, v0, .bool true, .slice p' n' cap', v1, .bool true, .bool true, .bool true, .bool true, .bool true, .bool true, .agg (A8 D), v1, .string ⟨(toU ys).toArray⟩, .agg (A8 D), .bool true, .bool true, .bool true, .agg (A8 G), v0, undef, undef, undef, undef, undef, undef], defers := [] } (by kernel_rfl) (by rfl) ?_
  refine wpAnyH_take (i := 14) (v := .string ⟨(toU xs).toArray⟩) rfl (by kernel_rfl) (by kernel_rfl) (by kernel_rfl) (fun _ _ _ h => h) (.inl ⟨rfl, fun W hW => by have e := kc W hW; go_simp⟩) b5 ?_
  refine reframe #[true, true, true, true, true, true, true, true, true, true, true, true, true, true, true, false, false, false, false, false, false] { tmps := #[v0, v1, undef, undef, .bool false, .slice p n cap, .slice p' n' cap', .pointer (some ⟨gh, 0, none⟩), .pointer (some ⟨gt, 0, none⟩), .bool true, .bool true, v0, .slice p n cap, v1, .slice p' n' cap', .slice p' n' cap', .agg (A8 D), .slice p n cap, .slice p' n' cap', .agg (A8 G), .slice p n cap, v0, .bool true, .slice p' n' cap', v1, .bool true, .bool true, .bool true, .bool true, .bool true, .bool true, .agg (A8 D), v1, .string ⟨(toU ys).toArray⟩, .agg (A8 D), .bool true, .bool true, .bool true, .agg (A8 G), v0, .string ⟨(toU xs).toArray⟩, undef, undef, undef, undef, undef], defers := [] } (by kernel_rfl) (by rfl) ?_
  refine wpAnyH_take (i := 15) (v := v1) rfl (by kernel_rfl) (by kernel_rfl) (by kernel_rfl) (fun _ _ _ h => h) (.inl ⟨rfl, fun W _ => by go_simp⟩) b5 ?_
  refine reframe #[true, true, true, true, true, true, true, true, true, true, true, true, true, true, true, true, false, false, false, false, false] { tmps := #[v0, v1, undef, undef, .bool false, .slice p n cap, .slice p' n' cap', .pointer (some ⟨gh, 0, none⟩), .pointer (some ⟨gt, 0, none⟩), .bool true, .bool true, v0, .slice p n cap, v1, .slice p' n' cap', .slice p' n' cap', .agg (A8 D), .slice p n cap, .slice p' n' cap', .agg (A8 G), .slice p n cap, v0, .bool true, .slice p' n' cap', v1, .bool true, .bool true, .bool true, .bool true, .bool true, .bool true, .agg (A8 D), v1, .string ⟨(toU ys).toArray⟩, .agg (A8 D), .bool true, .bool true, .bool true, .agg (A8 G), v0, .string ⟨(toU xs).toArray⟩, v1, undef, undef, undef, undef], defers := [] } (by kernel_rfl) (by rfl) ?_
  refine wpAnyH_take (i := 16) (v := .string ⟨(toU ys).toArray⟩) rfl (by kernel_rfl) (by kernel_rfl) (by kernel_rfl) (fun _ _ _ h => h) (.inl ⟨rfl, fun W hW => by have e := ec W hW; go_simp⟩) b5 ?_
  refine reframe #[true, true, true, true, true, true, true, true, true, true, true, true, true, true, true, true, true, false, false, false, false] { tmps := #[v0, v1, undef, undef, .bool false, .slice p n cap, .slice p' n' cap', .pointer (some ⟨gh, 0, none⟩), .pointer (some ⟨gt, 0, none⟩), .bool true, .bool true, v0, .slice p n cap, v1, .slice p' n' cap', .slice p' n' cap', .agg (A8 D), .slice p n cap, .slice p' n' cap', .agg (A8 G), .slice p n cap, v0, .bool true, .slice p' n' cap', v1, .bool true, .bool true, .bool true, .bool true, .bool true, .bool true, .agg (A8 D), v1, .string ⟨(toU ys).toArray⟩, .agg (A8 D), .bool true, .bool true, .bool true, .agg (A8 G), v0, .string ⟨(toU xs).toArray⟩, v1, .string ⟨(toU ys).toArray⟩, undef, undef, undef], defers := [] } (by kernel_rfl) (by rfl) ?_
  refine any_one (i := 17) (by kernel_rfl) ?_
  refine wpOp_callG (f := 20) (args := #[.string ⟨(toU xs).toArray⟩, .string ⟨(toU ys).toArray⟩]) rfl rfl (by go_simp) ?_
  refine (HG2.out _).mono ?_
  rintro e w6 ⟨rfl, hb6⟩
  have b6 : Below V.heap.size V w6 := b5.trans (hb6.mono b5.size)
  clear hb6
  refine ⟨_, rfl, b6, ?_⟩
  refine reframe #[true, true, true, true, true, true, true, true, true, true, true, true, true, true, true, true, true, true, false, false, false] { tmps := #[v0, v1, undef, undef, .bool false, .slice p n cap, .slice p' n' cap', .pointer (some ⟨gh, 0, none⟩), .pointer (some ⟨gt, 0, none⟩), .bool true, .bool true, v0, .slice p n cap, v1, .slice p' n' cap', .slice p' n' cap', .agg (A8 D), .slice p n cap, .slice p' n' cap', .agg (A8 G), .slice p n cap, v0, .bool true, .slice p' n' cap', v1, .bool true, .bool true, .bool true, .bool true, .bool true, .bool true, .agg (A8 D), v1, .string ⟨(toU ys).toArray⟩, .agg (A8 D), .bool true, .bool true, .bool true, .agg (A8 G), v0, .string ⟨(toU xs).toArray⟩, v1, .string ⟨(toU ys).toArray⟩, .agg (A8 G), undef, undef], defers := [] } (by kernel_rfl) (by rfl) ?_
  refine wpAnyH_take (i := 18) (v := .bool true) rfl (by kernel_rfl) (by kernel_rfl) (by kernel_rfl) (fun _ _ _ h => h) (yieldsIf_eql rfl (.tmp 38) (.tmp 43) rfl G hTl hTbb rfl rfl) b6 ?_
  refine reframe #[true, true, true, true, true, true, true, true, true, true, true, true, true, true, true, true, true, true, true, false, false] { tmps := #[v0, v1, undef, undef, .bool false, .slice p n cap, .slice p' n' cap', .pointer (some ⟨gh, 0, none⟩), .pointer (some ⟨gt, 0, none⟩), .bool true, .bool true, v0, .slice p n cap, v1, .slice p' n' cap', .slice p' n' cap', .agg (A8 D), .slice p n cap, .slice p' n' cap', .agg (A8 G), .slice p n cap, v0, .bool true, .slice p' n' cap', v1, .bool true, .bool true, .bool true, .bool true, .bool true, .bool true, .agg (A8 D), v1, .string ⟨(toU ys).toArray⟩, .agg (A8 D), .bool true, .bool true, .bool true, .agg (A8 G), v0, .string ⟨(toU xs).toArray⟩, v1, .string ⟨(toU ys).toArray⟩, .agg (A8 G), .bool true, undef], defers := [] } (by kernel_rfl) (by rfl) ?_
  refine wpAnyH_take (i := 19) (v := .bool true) rfl (by kernel_rfl) (by kernel_rfl) (by kernel_rfl) (fun _ _ _ h => h) (.inl ⟨rfl, fun W _ => by go_simp⟩) b6 ?_
  refine reframe #[true, true, true, true, true, true, true, true, true, true, true, true, true, true, true, true, true, true, true, true, false] { tmps := #[v0, v1, undef, undef, .bool false, .slice p n cap, .slice p' n' cap', .pointer (some ⟨gh, 0, none⟩), .pointer (some ⟨gt, 0, none⟩), .bool true, .bool true, v0, .slice p n cap, v1, .slice p' n' cap', .slice p' n' cap', .agg (A8 D), .slice p n cap, .slice p' n' cap', .agg (A8 G), .slice p n cap, v0, .bool true, .slice p' n' cap', v1, .bool true, .bool true, .bool true, .bool true, .bool true, .bool true, .agg (A8 D), v1, .string ⟨(toU ys).toArray⟩, .agg (A8 D), .bool true, .bool true, .bool true, .agg (A8 G), v0, .string ⟨(toU xs).toArray⟩, v1, .string ⟨(toU ys).toArray⟩, .agg (A8 G), .bool true, .bool true], defers := [] } (by kernel_rfl) (by rfl) ?_
  refine wpAnyH_take (i := 20) (v := .bool true) rfl (by kernel_rfl) (by kernel_rfl) (by kernel_rfl) (fun _ _ _ h => h) (.inl ⟨rfl, fun W _ => by go_simp⟩) b6 ?_
  refine reframe #[true, true, true, true, true, true, true, true, true, true, true, true, true, true, true, true, true, true, true, true, true] { tmps := #[v0, v1, undef, undef, .bool true, .slice p n cap, .slice p' n' cap', .pointer (some ⟨gh, 0, none⟩), .pointer (some ⟨gt, 0, none⟩), .bool true, .bool true, v0, .slice p n cap, v1, .slice p' n' cap', .slice p' n' cap', .agg (A8 D), .slice p n cap, .slice p' n' cap', .agg (A8 G), .slice p n cap, v0, .bool true, .slice p' n' cap', v1, .bool true, .bool true, .bool true, .bool true, .bool true, .bool true, .agg (A8 D), v1, .string ⟨(toU ys).toArray⟩, .agg (A8 D), .bool true, .bool true, .bool true, .agg (A8 G), v0, .string ⟨(toU xs).toArray⟩, v1, .string ⟨(toU ys).toArray⟩, .agg (A8 G), .bool true, .bool true], defers := [] } (by kernel_rfl) (by rfl) ?_
  refine wpAnyH_done (by kernel_rfl) ?_ _
  refine NoPanic.normal ?_
  clear ec kc
  go_wp2_with fail
  go_ret
  exact ⟨rfl, BV.trans (b6.mono BV.size)⟩
end Go.Proofs.YtcmjlhcpoajbkaaDoor
