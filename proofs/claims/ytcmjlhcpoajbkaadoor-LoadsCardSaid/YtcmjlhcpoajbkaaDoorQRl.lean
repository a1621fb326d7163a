import Derived.Test.YtcmjlhcpoajbkaaDoorQTag
import Derived.Deep.AppendLies
import Derived.Test.YtcmjlhcpoajbkaaDoorQRx
import Derived.Test.YtcmjlhcpoajbkaaDoorQSame
import Derived.Stop.BytesEq
import Derived.Test.YtcmjlhcpoajbkaaDoorTie
import Derived.Test.YtcmjlhcpoajbkaaDoorCards
import Derived.ProofKit
import Derived.OpenShut
import Derived.ShutString
import Derived.ChangeOld
import Derived.LaidMore
import Derived.SizedLaws
import Derived.Stop.Joined
import Derived.Stop.LaidErr
import Derived.Lib.LaidTab
import Derived.SevenTiedAt
import Derived.Lib.AppendZerosOnto
import Derived.Laws.OwnMore
namespace Go.Proofs.YtcmjlhcpoajbkaaDoor
set_option maxRecDepth 10000
open Go.RowKit
theorem info5' : ∃ i, Tryd.prog.info? 5 = some i ∧ i.zero = some (.int .u8 0) ∧ i.size = 1 ∧ i.bytes = 1 := ⟨_, rfl, rfl, rfl, rfl⟩
/-- What roomy makes: the bytes, and a mark behind them. -/
structure Roomy (w w' : World) (g n cap : Nat) (xs : List Int) : Prop where
  new : w.heap.size ≤ g
  fits : n + 1 ≤ cap
  most : cap ≤ 9223372036854775807
  here : g < w'.heap.size
  cells : ∀ j, j < n → w'.cell? ⟨g, j, none⟩ = some (.int .u8 (xs.getD j 0))
  mark : w'.cell? ⟨g, n, none⟩ = some (.int .u8 126)
  below : Below w.heap.size w w'
theorem owns8 {w : World} {B : Nat} {v : Value} {l : List Int} {n : Nat} (h : w.ownsRow B 5 1 v n (l.map (Value.int .u8))) (hn : 0 < n) :
    ∃ g cap, v = .slice (some ⟨g, 0, none⟩) n cap ∧ B ≤ g ∧ g < w.heap.size ∧ n ≤ cap ∧ cap ≤ maxLen ∧ l.length = n ∧ ∀ j, j < n → w.cell? ⟨g, j, none⟩ = some (.int .u8 (l.getD j 0)) := by
  obtain ⟨hl, ⟨_, h0⟩ | ⟨g, cap, cur, rfl, hg, hh, hc, hm, hs, ht⟩⟩ := h
  · omega
  · have hl' : l.length = n := by simpa using hl
    refine ⟨g, cap, rfl, hg, row_lt hh, hc, hm, hl', fun j hj => ?_⟩
    rw [cell_of_row _ _ _ _ _ _ hh]
    have e := congrArg (fun z : List Value => z[j]?) ht
    simp only [Nat.mul_one, List.getElem?_take, if_pos hj, List.getElem?_map] at e
    rw [← Array.getElem?_toList, e]
    rw [List.getD_eq_getElem?_getD, List.getElem?_eq_getElem (by omega)]
    rfl
theorem owns_alloc8 {w : World} {B : Nat} {e : TypeId} {n s : Nat} {v : Value} {xs : List Value} (h : w.ownsRow B e s v n xs) (o : Obj) : (w.alloc o).ownsRow B e s v n xs := by
  obtain ⟨h1, h2 | ⟨g, cap, cur, hv, hg, hh, r⟩⟩ := h
  · exact ⟨h1, .inl h2⟩
  · exact ⟨h1, .inr ⟨g, cap, cur, hv, hg, (heapO w o g (row_lt hh)).trans hh, r⟩⟩
theorem wpList_app8 {ops : Array Oper} {rest : List Oper} {o : Oper} {a : Act} {Q : Exit → Act → World → Prop} {w : World} (hgd : o.guard = none) (s x : Operand)
    (ho : o.op = .call { callee := .builtin .append, args := #[s, x], argTypes := #[22, 22] }) (B : Nat) (v : Value) (l : List Int) (n : Nat) (hs : a.eval s = v)
    (hown : w.ownsRow B 5 1 v n (l.map (Value.int .u8))) (ad : Addr) (m c : Nat) (ys : List Int) (hx : a.eval x = .slice (some ad) m c) (hl : ys.length = m)
    (hnews : ∀ j, j < m → w.cell? (ad.add j) = some (.int .u8 (ys.getD j 0))) (hm : 0 < m) (hn : n + m ≤ 140737488355328) (hB : B ≤ w.heap.size)
    (h : ∀ v' w', w'.ownsRow B 5 1 v' (n + m) ((l ++ ys).map (Value.int .u8)) → w.heap.size ≤ w'.heap.size → (∀ w0, Below B w0 w → Below B w0 w') → wpList Tryd.prog ops Q rest (a.put o.dst v') w') : wpList Tryd.prog ops Q (o :: rest) a w := by
  obtain ⟨i, hi, hz, hsz, hby⟩ := info5'
  refine wpList_append_lies w hgd s x 22 ho B 5 i (.int .u8 0) 1 1 Tryd.underlying22 hi hz hsz hby rfl (by omega) v n _ hs hown ad m c (ys.map (Value.int .u8)) hx (by simp [hl]) (fun j u hu => ?_) (fun u hu => ?_) hm (by unfold maxLen; omega) (by omega) hB _ rfl ?_
  · have hj : j < ys.length := by
      rcases Nat.lt_or_ge j ys.length with h' | h'
      · exact h'
      · rw [List.getElem?_eq_none (by simpa using h')] at hu; cases hu
    rw [hnews j (by omega)]
    simp only [List.getElem?_map, List.getElem?_eq_getElem hj, Option.map_some, Option.some.injEq] at hu
    rw [← hu, List.getD_eq_getElem?_getD, List.getElem?_eq_getElem hj]; rfl
  · simp only [List.mem_map] at hu; obtain ⟨y, _, rfl⟩ := hu; rfl
  · intro g cap w' h1 h2 h3 h4
    refine h _ w' (by simpa using h1) h2.size (fun w0 hb => hb.grown h2 hB (fun k hk => ?_))
    rcases hown.2 with ⟨rfl, _⟩ | ⟨g', c', cur, rfl, hg', _⟩
    · cases hk
    · simp only [Value.ownBlock, Option.some.injEq] at hk; omega
theorem eql_nil (a : Option Addr) (l c : Nat) (w : World) : (binOp .eql 22 (.slice a l c) (.slice none 0 0)).run Tryd.prog w = .ok (.bool a.isNone) w := by
  simp only [binOp]
  simp [run_equal_slice_nil w 22 5 a l c Tryd.underlying22]
theorem roomy_nil (w : World) : Calls Tryd.prog 15 #[.slice none 0 0] w fun e w' => e = .returned (.slice none 0 0) ∧ w' = w := by
  have hq := eql_nil none 0 0 w
  go_enter Tryd.func15, Tryd.ntmps15
  go_wp2
  go_ret
  exact ⟨rfl, rfl⟩
end Go.Proofs.YtcmjlhcpoajbkaaDoor
namespace Go.Proofs.YtcmjlhcpoajbkaaDoor
set_option maxRecDepth 10000
open Go.RowKit
theorem conv_arg (xs : List Int) (w : World) (ad : Addr) (n cap : Nat) (hn : xs.length = n) (hc : ∀ j, j < n → w.cell? (ad.add j) = some (.int .u8 (xs.getD j 0))) :
    (convert 22 9 (.slice (some ad) n cap)).run Tryd.prog w = .ok (.string ⟨(toU xs).toArray⟩) w := by
  have hl : (loadCells ad n).run Tryd.prog w = .ok (xs.map (Value.int .u8)).toArray w := by
    have := run_loadCells_list (P := Tryd.prog) w ad (xs.map (Value.int .u8)) (fun j v hv => by
      have hj : j < xs.length := by
        rcases Nat.lt_or_ge j xs.length with h | h
        · exact h
        · rw [List.getElem?_eq_none (by simpa using h)] at hv; cases hv
      rw [hc j (by omega)]
      simp only [List.getElem?_map, List.getElem?_eq_getElem hj, Option.map_some, Option.some.injEq] at hv
      rw [← hv, List.getD_eq_getElem?_getD, List.getElem?_eq_getElem hj]; rfl)
    simpa [hn] using this
  rw [run_convert_bytes_string w 22 9 5 _ n cap Tryd.underlying22 Tryd.underlying5 Tryd.underlying9, run_bytesToString w _ n cap xs hl, foldl_push_bytes]
  simp [toU, ByteArray.empty, ByteArray.emptyWithCapacity]
  rfl
theorem kept_nil (w : World) : Calls Tryd.prog 18 #[.slice none 0 0, .slice none 0 0] w fun e w' => e = .returned (.bool true) ∧ w' = w := by
  have hq := eql_nil none 0 0 w
  go_enter Tryd.func18, Tryd.ntmps18
  go_wp2
  go_ret
  exact ⟨rfl, rfl⟩
set_option maxHeartbeats 400000 in
theorem kept_some (ad : Addr) (g n cap cap' : Nat) (xs : List Int) (w : World) (hl : xs.length = n) (hn : n ≤ 140737488351232) (hc' : n + 1 ≤ cap')
    (h1 : ∀ j, j < n → w.cell? (ad.add j) = some (.int .u8 (xs.getD j 0))) (h2 : ∀ j, j < n → w.cell? ⟨g, j, none⟩ = some (.int .u8 (xs.getD j 0))) (hmark : w.cell? ⟨g, n, none⟩ = some (.int .u8 126)) :
    Calls Tryd.prog 18 #[.slice (some ⟨g, 0, none⟩) n cap', .slice (some ad) n cap] w fun e w' => e = .returned (.bool true) ∧ w' = w := by
  have hq := eql_nil (some ad) n cap w
  have k1 := conv_arg xs w ad n cap hl h1
  have k2 := conv_arg xs w ⟨g, 0, none⟩ n cap' hl (fun j hj => by rw [addr_add, Nat.zero_add]; exact h2 j hj)
  clear h1 h2 hl
  generalize toU xs = u at *
  go_enter Tryd.func18, Tryd.ntmps18
  go_wp2
  go_ret
  exact ⟨rfl, rfl⟩
end Go.Proofs.YtcmjlhcpoajbkaaDoor
namespace Go.Proofs.YtcmjlhcpoajbkaaDoor
set_option maxRecDepth 10000
open Go.RowKit
open Extern.Stop (cell)
/-- A slice of bytes that was handed in. -/
def Arg (w : World) (v : Value) (xs : List Int) : Prop :=
  (v = .slice none 0 0 ∧ xs = []) ∨ ∃ ad n cap, v = .slice (some ad) n cap ∧ xs.length = n ∧ n ≤ 140737488351232 ∧ Bytes xs ∧ ∀ j, j < n → w.cell? (ad.add j) = some (.int .u8 (xs.getD j 0))
theorem Arg.bytes {w : World} {v : Value} {xs : List Int} (h : Arg w v xs) : Bytes xs := by
  rcases h with ⟨_, rfl⟩ | ⟨_, _, _, _, _, _, h, _⟩
  · intro j; simp
  · exact h
theorem Arg.small {w : World} {v : Value} {xs : List Int} (h : Arg w v xs) : xs.length ≤ 140737488351232 := by
  rcases h with ⟨_, rfl⟩ | ⟨_, _, _, _, h, h2, _⟩
  · simp
  · omega
theorem Arg.below {w w' : World} {v : Value} {xs : List Int} (h : Arg w v xs) (hb : Below w.heap.size w w') : Arg w' v xs := by
  rcases h with h | ⟨ad, n, cap, h1, h2, h3, h4, h5⟩
  · exact .inl h
  · exact .inr ⟨ad, n, cap, h1, h2, h3, h4, fun j hj => by rw [hb.cell (block_lt_of_cell (h5 j hj))]; exact h5 j hj⟩
theorem Arg.conv {w : World} {v : Value} {xs : List Int} (h : Arg w v xs) : (convert 22 9 v).run Tryd.prog w = .ok (.string ⟨(toU xs).toArray⟩) w := by
  rcases h with ⟨rfl, rfl⟩ | ⟨ad, n, cap, rfl, h2, h3, h4, h5⟩
  · rw [run_convert_bytes_nil (P := Tryd.prog) w 22 5 Tryd.underlying22 Tryd.underlying5 0 0 9 Tryd.underlying9]; rfl
  · exact conv_arg xs w ad n cap h2 h5
/-- What was handed in, and what roomy made of it. -/
def Pair (w : World) (v : Value) (p : Option Addr) (n cap : Nat) (xs : List Int) : Prop :=
  (v = .slice none 0 0 ∧ p = none ∧ n = 0 ∧ cap = 0) ∨
  ∃ ad c g, v = .slice (some ad) n c ∧ p = some ⟨g, 0, none⟩ ∧ xs.length = n ∧ n ≤ 140737488351232 ∧ n + 1 ≤ cap ∧ g < w.heap.size ∧
    (∀ j, j < n → w.cell? (ad.add j) = some (.int .u8 (xs.getD j 0))) ∧ (∀ j, j < n → w.cell? ⟨g, j, none⟩ = some (.int .u8 (xs.getD j 0))) ∧ w.cell? ⟨g, n, none⟩ = some (.int .u8 126)
theorem Pair.below {w w' : World} {v : Value} {p : Option Addr} {n cap : Nat} {xs : List Int} (h : Pair w v p n cap xs) (hb : Below w.heap.size w w') : Pair w' v p n cap xs := by
  rcases h with h | ⟨ad, c, g, h1, h2, h3, h4, h5, h6, h7, h8, h9⟩
  · exact .inl h
  · exact .inr ⟨ad, c, g, h1, h2, h3, h4, h5, Nat.lt_of_lt_of_le h6 hb.size, fun j hj => by rw [hb.cell (block_lt_of_cell (h7 j hj))]; exact h7 j hj, fun j hj => by rw [hb.cell (block_lt_of_cell (h8 j hj))]; exact h8 j hj, by rw [hb.cell (block_lt_of_cell h9)]; exact h9⟩
theorem kept_any {w : World} {v : Value} {p : Option Addr} {n cap : Nat} {xs : List Int} (h : Pair w v p n cap xs) :
    Calls Tryd.prog 18 #[.slice p n cap, v] w fun e w' => e = .returned (.bool true) ∧ w' = w := by
  rcases h with ⟨rfl, rfl, rfl, rfl⟩ | ⟨ad, c, g, rfl, rfl, h3, h4, h5, h6, h7, h8, h9⟩
  · exact kept_nil w
  · exact kept_some ad g n c cap xs w h3 h4 h5 h7 h8 h9
section
variable {P : Program} {ops : Array Oper} {Q : Exit → Act → World → Prop} {S : World → Prop}
theorem wpOp_callG {i : Nat} {o : Oper} {K : Act → World → Prop} {a : Act} {w : World} {f : FuncId} {args : Array Value} (hi : ops[i]? = some o) (hw : Region.wanted o (yielded ops a.tmps) = true)
    (hrun : (execOp a.eval o).run P w = .ok (.enter f args) w) (h : Calls P f args w fun e w'' => ∃ v, e = .returned v ∧ K (a.put o.dst v) w'') : wpOp P ops Q i K a w := by
  unfold wpOp
  simp only [hi, hw, if_true]
  refine .inl ?_
  unfold Oper.wp
  rw [hrun]
  exact h.mono fun e w'' ⟨v, he, hk⟩ => by subst he; exact hk
theorem yieldsIf_rowG {o : Oper} {a : Act} (hw : Region.wanted o (yielded ops a.tmps) = true) (ty : TypeId) (x : Operand) (ho : o.op = .load ty x)
    (g : Nat) (hx : a.eval x = .pointer (some ⟨g, 0, none⟩)) (t : TypeId) (cs : Array Value) (fr : Nat × Nat) (d : TypeDesc) (hS : ∀ w, S w → w.heap[g]? = some (.cells cs t fr))
    (hu : P.underlying ty = some d) (hd : (match d with | .struct _ | .array _ _ => true | _ => false) = true) (hi : (P.info? ty).map (·.size) = some cs.size) : YieldsIf P ops S o (.agg cs) a :=
  .inl ⟨hw, fun w hS' => by
    unfold execOp
    simp only [ho, hx, Instr.loadAt, Instr.sureAddr, Sem.run_bind, Sem.run_pure, Result.andThen_ok, run_loadVar_row w g t ty cs fr d (hS w hS') hu hd hi]⟩
end
end Go.Proofs.YtcmjlhcpoajbkaaDoor
namespace Go.Proofs.YtcmjlhcpoajbkaaDoor
set_option maxRecDepth 100000
open Go.ChangeShapes Go.WideShapes Go.ChangeAt Go.RowKit
theorem own : ownKnob Tryd.prog.godebug = none := by kernel_rfl
theorem laidOut : laidOutB Tryd.prog = true := by kernel_rfl
def nStart : String := Rows.hashesRow.named.getD 0 default
def nRounds : String := Rows.hashesRow.named.getD 1 default
theorem gStart : Tryd.prog.globalNamed nStart = some 0 := by kernel_rfl
theorem gRounds : Tryd.prog.globalNamed nRounds = some 1 := by kernel_rfl
theorem tStart : (Tryd.prog.globals[0]?).map (·.type) = some 143 := by kernel_rfl
theorem tRounds : (Tryd.prog.globals[1]?).map (·.type) = some 167 := by kernel_rfl
def laid2 : List (String × DataW Unit) := Rows.hashesRow.laid
theorem door_met (os : Os) (args : Array Value) : laidMetH Tryd.prog laid2 ((World.doorLaid Tryd.prog 400 os).forCall (fun _ _ => 0) ⟨#[], args, []⟩).memory :=
  laidMetH_of_parts3 (fuel := 8) (laidMet_of_run' 8 (by kernel_rfl) (by kernel_rfl)) (by kernel_rfl) (by kernel_rfl)
theorem block_of_var {W : World} {name : String} {g : Nat} {cs : Array Value} (hg : Tryd.prog.globalNamed name = some g) (h : W.var? Tryd.prog name = some cs) : ∃ t fr, W.heap[g]? = some (.cells cs t fr) := by
  unfold World.var? at h
  rw [hg] at h
  simp only [Option.bind_some] at h
  split at h
  · rename_i cs' t fr e
    cases h
    exact ⟨t, fr, e⟩
  · cases h
theorem tabs_of_laid {W : World} (h : laidMetH Tryd.prog laid2 W) : Tabs KS HS W := by
  rw [MakeChecks.laidMetH_plain _ _ _ (by kernel_rfl)] at h
  have h : laidMet Tryd.prog [(nStart, Lib.tabData .u32 HS), (nRounds, Lib.tabData .u32 KS)] W := h
  have h1 : Lib.TabIs Tryd.prog W nStart .u32 HS := Lib.tabIs_of_head (n := 8) gStart tStart und40 Tryd.underlying98 (by kernel_rfl) (by kernel_rfl) h
  have h2 : Lib.TabIs Tryd.prog W nRounds .u32 KS := Lib.tabIs_of_head (n := 64) gRounds tRounds und49 Tryd.underlying98 (by kernel_rfl) (by kernel_rfl) (laidMet.tail h)
  exact ⟨rfl, rfl, block_of_var gStart h1, block_of_var gRounds h2⟩
theorem bytes5 : Tryd.prog.bytesOf 5 = 1 := by kernel_rfl
/-- A slice that was read, as the walk takes it. -/
theorem arg_of {H : Type} {enc : TypeId × Value → H} {W : World} {v : Value} {d : DataW H} {p : List MemPlace} {ts : List TypeId} {ds : List (DataW H)} {base j : Nat}
    (hv : Value.okWide Tryd.prog W .any base 22 v) (h : DataW.Trod enc Tryd.prog W 0 (fun _ => true) true 22 v d p) (hsz : (DataW.weightsEach Tryd.prog ts ds).all (· ≤ reachBytes) = true)
    (ht : ts[j]? = some 22) (hd : ds[j]? = some d) : ∃ xs, Arg W v xs := by
  obtain ⟨a0, len0, cap0, rfl⟩ := okWide_slice Tryd.underlying22 hv
  obtain ⟨fuel, hf⟩ := h
  rcases open_ints Tryd.underlying22 Tryd.underlying5 (by kernel_rfl) hf with ⟨hcs, _⟩ | ⟨x, l, c, zs, hcs, _, hl, hm, hz, hx, hcell, hwz⟩
  · simp [Value.cells] at hcs
    obtain ⟨rfl, rfl, rfl⟩ := hcs
    exact ⟨[], .inl ⟨rfl, rfl⟩⟩
  · simp [Value.cells] at hcs
    obtain ⟨rfl, rfl, rfl⟩ := hcs
    have hz' : zs.length = cap0 := by simpa using hz
    simp only [Prod.mk.injEq] at hx
    have hs := sized_slice hsz ht (by rw [hd, hx.1]) Tryd.underlying22
    rw [bytes5] at hs
    simp only [lits, List.length_map, List.length_take, List.length_drop, reachBytes] at hs
    refine ⟨zs.take len0, .inr ⟨x, len0, cap0, rfl, by rw [List.length_take]; omega, by omega, Bytes.of fun y hy => ?_, fun i hi => ?_⟩⟩
    · have := bounds_u8 (hwz y (List.mem_of_mem_take hy))
      omega
    · rw [hcell i (by omega), List.getD_eq_getElem?_getD, List.getD_eq_getElem?_getD, List.getElem?_take, if_pos hi]
end Go.Proofs.YtcmjlhcpoajbkaaDoor
namespace Go.Proofs.YtcmjlhcpoajbkaaDoor
set_option maxRecDepth 10000
open Go.RowKit
/-- Append of nothing. -/
theorem run_app_none (w : World) (ty : TypeId) (p q : Option Addr) (n cap c : Nat) (h : n ≤ cap) :
    (Builtin.append_ #[22, 22] ty #[.slice p n cap, .slice q 0 c]).run Tryd.prog w = .ok (.slice p n cap) w := by
  obtain ⟨i, hi, hz, hsz, hby⟩ := info5'
  cases p <;> cases q <;> simp [Builtin.append_, run_underlying Tryd.underlying22, sizeOf, typeInfo, hi, Builtin.lenOf, Builtin.firstCells, h, storeCells, loadCells, loadCellsFrom]
/-- Grow of nil. -/
theorem grow_zeros (w : World) (ty : TypeId) (k : Nat) (h0 : 0 < k) (hk : k ≤ 140737488355328) :
    (Builtin.append_ #[22, 3] ty #[.slice none 0 0, .int .i64 k]).run Tryd.prog w =
      .ok (.slice (some ⟨w.heap.size, 0, none⟩) k (grownCap w k 0 5)) (w.drew.alloc (.cells ((Builtin.zeroCells #[.int .u8 0] k) ++ (Builtin.zeroCells #[.int .u8 0] (grownCap w k 0 5 - k))) 5)) := by
  obtain ⟨i, hi, hz, hsz, hby⟩ := info5'
  have h := Lib.run_append_grow_zeros (P := Tryd.prog) w 22 3 ty 5 i (.int .u8 0) .i64 .i64 Tryd.underlying22 Tryd.underlying3 hi hz none 0 0 [] (run_firstCells_none w.drew i.size 0 0 0) k h0 (by omega) (by omega) (by omega) (by rw [hby]; omega) (by rw [hby]; exact growslice_fits (by omega) (by omega))
  rw [Nat.zero_add] at h
  rw [h]
  have e : (Value.int .u8 0).cells = #[.int .u8 0] := rfl
  rw [e]
  simp
theorem wpList_growz {ops : Array Oper} {rest : List Oper} {o : Oper} {a : Act} {Q : Exit → Act → World → Prop} {w : World} (hgd : o.guard = none) (s x : Operand)
    (ho : o.op = .call { callee := .builtin .append, args := #[s, x], argTypes := #[22, 3] }) (k : Nat) (hs : a.eval s = .slice none 0 0) (hx : a.eval x = .int .i64 k) (h0 : 0 < k) (hk : k ≤ 140737488355328)
    (h : ∀ G w', k ≤ G → G ≤ maxLen → Hid (w'.ownsRow w.heap.size 5 1 (.slice (some ⟨w.heap.size, 0, none⟩) 0 G) 0 []) → Below w.heap.size w w' → wpList Tryd.prog ops Q rest (a.put o.dst (.slice (some ⟨w.heap.size, 0, none⟩) k G)) w') : wpList Tryd.prog ops Q (o :: rest) a w := by
  have hge := grownCap_ge w k 0 5
  have hle := grownCap_le_maxLen w k 0 5 (by unfold maxLen; omega)
  have hr := grow_zeros w o.type k h0 hk
  refine wpList_plain hgd fun _ hK => ?_
  unfold Oper.wp execOp
  simp only [ho, resolve, invoke, builtin, Sem.run_bind, Sem.run_pure, Result.andThen_ok, List.map_toArray, List.map_cons, List.map_nil, hs, hx, hr]
  generalize grownCap w k 0 5 = G at *
  refine hK _ _ (h G _ hge hle ?_ ((Below.refl _ _).drew.alloc (Nat.le_refl _) _))
  refine ⟨rfl, .inr ⟨w.heap.size, G, _, rfl, Nat.le_refl _, heapN w.drew _ _ rfl, by omega, hle, ?_, rfl⟩⟩
  rw [Array.size_append, size_zeroCells, size_zeroCells]
  show k * 1 + (G - k) * 1 = G * 1
  omega
theorem wpList_app_none {ops : Array Oper} {rest : List Oper} {o : Oper} {a : Act} {Q : Exit → Act → World → Prop} {w : World} (hgd : o.guard = none) (s x : Operand)
    (ho : o.op = .call { callee := .builtin .append, args := #[s, x], argTypes := #[22, 22] }) (p q : Option Addr) (n cap c : Nat) (hs : a.eval s = .slice p n cap) (hx : a.eval x = .slice q 0 c) (hn : n ≤ cap)
    (h : wpList Tryd.prog ops Q rest (a.put o.dst (.slice p n cap)) w) : wpList Tryd.prog ops Q (o :: rest) a w := by
  have hr := run_app_none w o.type p q n cap c hn
  refine wpList_plain hgd fun _ hK => ?_
  unfold Oper.wp execOp
  simp only [ho, resolve, invoke, builtin, Sem.run_bind, Sem.run_pure, Result.andThen_ok, List.map_toArray, List.map_cons, List.map_nil, hs, hx, hr]
  exact hK _ _ h
set_option maxHeartbeats 400000 in
theorem grow_any (k : Nat) (w : World) (h0 : 0 < k) (hk : k ≤ 140737488355328) :
    Calls Tryd.prog 118 #[.slice none 0 0, .int .i64 k] w fun e w' => ∃ cap, e = .returned (.slice (some ⟨w.heap.size, 0, none⟩) 0 cap) ∧ k ≤ cap ∧ cap ≤ maxLen ∧ Below w.heap.size w w' ∧
      w'.ownsRow w.heap.size 5 1 (.slice (some ⟨w.heap.size, 0, none⟩) 0 cap) 0 [] := by
  go_enter Tryd.func118, Tryd.ntmps118
  go_wp2_with (first
    | (at_builtin
       refine wpList_growz rfl (.tmp 20) (.tmp 21) rfl k rfl rfl h0 hk ?_
       intro G w' hge hle hown hbel
       refine hideGoal ?_))
  have Hle : Hid (G ≤ maxLen) := hle
  have hG : G ≤ 9223372036854775807 := by unfold maxLen at hle; omega
  clear hle
  refine openGoal ?_
  go_wp2_with fail
  go_ret
  exact ⟨G, rfl, hge, Hle.out, hbel, hown.out⟩
def catX (xf : Nat → List Int) : Nat → List Int
  | 0 => []
  | k + 1 => catX xf k ++ xf k
theorem catX_mono (xf : Nat → List Int) (i m : Nat) (h : i ≤ m) : (catX xf i).length ≤ (catX xf m).length := by
  induction m with
  | zero => have e : i = 0 := by omega
            subst e; exact Nat.le_refl _
  | succ m ih =>
    rcases Nat.lt_or_ge i (m + 1) with h' | h'
    · have := ih (by omega); simp only [catX, List.length_append]; omega
    · have e : i = m + 1 := by omega
      subst e; exact Nat.le_refl _
theorem catX_bytes (xf : Nat → List Int) (m : Nat) (h : ∀ i, i < m → Bytes (xf i)) : Bytes (catX xf m) := by
  induction m with
  | zero => intro j; simp [catX]
  | succ m ih =>
    refine .of fun x hx => ?_
    simp only [catX, List.mem_append] at hx
    rcases hx with hx | hx
    · exact (ih fun i hi => h i (by omega)).mem x hx
    · exact (h m (by omega)).mem x hx
set_option maxHeartbeats 1000000 in
theorem concat_any (gp m : Nat) (pf : Nat → Option Addr) (nf cf : Nat → Nat) (xf : Nat → List Int) (w : World) (hm : m ≤ 100)
    (hcell : ∀ i, i < m → w.cell? ⟨gp, i, none⟩ = some (.slice (pf i) (nf i) (cf i))) (hin : ∀ i, i < m → In8 w (pf i) (nf i) (cf i) (xf i))
    (hpos : 0 < (catX xf m).length) (htot : (catX xf m).length ≤ 140737488355328) :
    Calls Tryd.prog 97 #[.slice (some ⟨gp, 0, none⟩) m m] w fun e w' => ∃ p n c, e = .returned (.slice p n c) ∧ Below w.heap.size w w' ∧ In8 w' p n c (catX xf m) := by
  have HC : Hid (∀ i, i < m → w.cell? ⟨gp, i, none⟩ = some (.slice (pf i) (nf i) (cf i))) := hcell
  have HI : Hid (∀ i, i < m → In8 w (pf i) (nf i) (cf i) (xf i)) := hin
  clear hcell hin
  go_enter Tryd.func97, Tryd.ntmps97
  go_wp2_with fail
  go_loop [3, 11] (fun v i => ∃ k : Nat, k ≤ m ∧ i = .int .i64 k ∧ v = .int .i64 ((catX xf k).length : Nat)) (fun _ i => m - (intOf i).toNat)
  case atStart => exact ⟨0, by omega, rfl, rfl⟩
  case round =>
    obtain ⟨k, hk, rfl, rfl⟩ := hrel
    by_cases hlt : k < m
    · have hc := HC.out k hlt
      have h1 := catX_mono xf (k + 1) m (by omega)
      have hl := (HI.out k hlt).len
      have hs := (HI.out k hlt).small
      have e1 : (catX xf (k + 1)).length = (catX xf k).length + nf k := by simp only [catX, List.length_append]; omega
      have E1 : Hid ((catX xf (k + 1)).length = (catX xf k).length + nf k) := e1
      rw [e1] at h1
      clear e1
      generalize (catX xf k).length = s at *
      generalize nf k = nk at *
      generalize pf k = pk at *
      generalize cf k = ck at *
      clear hl
      go_wp2_with fail
      go_round
      case rel => exact ⟨k + 1, by omega, by go_num, by rw [E1.out]; go_num⟩
      case measure => simp [intOf]; omega
    · have ek : k = m := by omega
      have Ek : Hid (k = m) := ek
      have ecat : (catX xf k).length = (catX xf m).length := by rw [ek]
      rw [ecat]
      have Hlen : Hid (∀ T, T = catX xf m → T.length = (catX xf m).length) := fun T h => by rw [h]
      clear ecat ek
      generalize hS : (catX xf m).length = S at *
      go_wp2_with fail
      refine (grow_any S w (by omega) (by omega)).mono ?_
      rintro e w1 ⟨cap, rfl, hcap1, hcap2, hb1, ho1⟩
      have HO1 : Hid (w1.ownsRow w.heap.size 5 1 (.slice (some ⟨w.heap.size, 0, none⟩) 0 cap) 0 []) := ho1
      have hcap3 : cap ≤ 9223372036854775807 := by unfold maxLen at hcap2; omega
      clear ho1 hcap2
      go_wp2_with fail
      have hbc : ∀ i, i < m → w1.cell? ⟨gp, i, none⟩ = some (.slice (pf i) (nf i) (cf i)) := fun i hi => by rw [hb1.cell (block_lt_of_cell (HC.out i hi))]; exact HC.out i hi
      go_loopw [6, 27] (fun v i wr => ∃ k : Nat, k ≤ m ∧ i = .int .i64 k ∧ Below w.heap.size w wr ∧ wr.ownsRow w.heap.size 5 1 v (catX xf k).length ((catX xf k).map (Value.int .u8)) ∧ ∃ g c, v = .slice (some ⟨g, 0, none⟩) (catX xf k).length c) (fun _ i _ => m - (intOf i).toNat)
      case atStart => exact ⟨0, by omega, rfl, hb1, HO1.out, _, _, rfl⟩
      case round =>
        obtain ⟨k, hk, rfl, hb, ho, g, c, rfl⟩ := hrel
        have HO : Hid _ := ho
        clear ho hbc HO1 hb1
        by_cases hlt : k < m
        · have hc : wr.cell? ⟨gp, k, none⟩ = some (.slice (pf k) (nf k) (cf k)) := by rw [hb.cell (block_lt_of_cell (HC.out k hlt))]; exact HC.out k hlt
          have h1 := catX_mono xf (k + 1) m (by omega)
          have hI : Hid (In8 wr (pf k) (nf k) (cf k) (xf k)) := (HI.out k hlt).below hb
          have hl := hI.out.len
          have E1 : Hid ((catX xf (k + 1)).length = (catX xf k).length + nf k) := by
            show _ = _
            simp only [catX, List.length_append]; omega
          rw [E1.out, hS] at h1
          have h63 := hI.out.small
          have hS' : Hid ((catX xf m).length = S) := hS
          clear hS Hlen
          by_cases hz : 0 < nf k
          · obtain ⟨gs, off, hp, hgs, hcs⟩ := hI.out.lies (by omega)
            have HCS : Hid (∀ j, j < nf k → wr.cell? ((⟨gs, off, none⟩ : Addr).add j) = some (.int .u8 ((xf k).getD j 0))) := fun j hj => by
              rw [addr_add]; exact hcs j (by omega)
            clear hcs
            rw [hp] at hc
            have hBs : w.heap.size ≤ wr.heap.size := hb.size
            generalize hs : (catX xf k).length = s at *
            generalize hnk : nf k = nk at *
            generalize cf k = ck at *
            go_wp2_with (first
              | (at_builtin
                 refine wpList_app8 rfl (.tmp 31) (.tmp 32) rfl w.heap.size (.slice (some ⟨g, 0, none⟩) s c) (catX xf k) s rfl HO.out ⟨gs, off, none⟩ nk ck (xf k) rfl hl HCS.out hz (by omega) hBs ?_
                 intro v2 w2 ho2 hs2 hb2
                 refine hideGoal ?_))
            have HO2 : Hid (w2.ownsRow w.heap.size 5 1 v2 (s + nk) ((catX xf k ++ xf k).map (Value.int .u8))) := ho2
            have hb3 := hb2 w hb
            clear ho2 hb2
            refine openGoal ?_
            go_wp2_with fail
            go_roundw
            case rel =>
              obtain ⟨g2, c2, hv2, _, _⟩ := HO2.out.form (by omega)
              refine ⟨k + 1, by omega, by go_num, hb3, ?_, g2, c2, ?_⟩
              · rw [E1.out]; exact HO2.out
              · rw [E1.out]; exact hv2
            case measure => simp [intOf]; omega
          · have hz0 : nf k = 0 := by omega
            have hx0 : xf k = [] := List.length_eq_zero_iff.1 (by omega)
            have Hx0 : Hid (catX xf (k + 1) = catX xf k) := by
              show catX xf k ++ xf k = _
              rw [hx0, List.append_nil]
            have hcap := HO.out.2
            rw [hz0] at hc
            have hfit : (catX xf k).length ≤ c := by
              rcases HO.out.2 with ⟨h, _⟩ | ⟨g', cap', cur, h, _, _, h2, _⟩
              · cases h
              · cases h; exact h2
            clear hcap hz0 hx0
            generalize hs : (catX xf k).length = s at *
            generalize cf k = ck at *
            generalize pf k = pk at *
            go_wp2_with (first
              | (at_builtin
                 refine wpList_app_none rfl (.tmp 31) (.tmp 32) rfl (some ⟨g, 0, none⟩) pk s c ck rfl rfl hfit ?_))
            go_roundw
            case rel =>
              refine ⟨k + 1, by omega, by go_num, hb, ?_, g, c, ?_⟩
              · rw [Hx0.out, hs]; exact HO.out
              · rw [Hx0.out, hs]
            case measure => simp [intOf]; omega
        · have ek : k = m := by omega
          subst ek
          have hlen : (catX xf k).length = S := hS
          have hby : Bytes (catX xf k) := catX_bytes xf k (fun i hi => (HI.out i hi).bytes)
          clear hS Hlen Ek
          generalize hT : catX xf k = T at *
          have HT : Hid (catX xf k = T) := hT
          clear hT
          rw [hlen]
          obtain ⟨g', cap', hv, hg1, hg2, hfit, hmost, _, hcells⟩ := owns8 HO.out (by omega)
          cases hv
          have HI8 : Hid (In8 wr (some ⟨g, 0, none⟩) S c T) := by
            refine ⟨hlen, hby, by omega, by unfold maxLen at hmost; omega, by omega, fun _ => ⟨g, 0, rfl, hg2, fun j hj => ?_⟩⟩
            rw [Nat.zero_add]; exact hcells j (by omega)
          clear hcells hmost
          go_wp2_with fail
          go_ret
          exact ⟨_, _, _, rfl, hb, by rw [HT.out]; exact HI8.out⟩
end Go.Proofs.YtcmjlhcpoajbkaaDoor
namespace Go.Proofs.YtcmjlhcpoajbkaaDoor
set_option maxRecDepth 10000
open Go.RowKit
/-- A digest in a block of its own. -/
structure Dg (w : World) (g : Nat) (D : List Int) : Prop where
  len : D.length = 32
  here : w.heap[g]? = some (.cells (A8 D) 25)
theorem Dg.lt {w : World} {g : Nat} {D : List Int} (h : Dg w g D) : g < w.heap.size := row_lt h.here
theorem Dg.below {w w' : World} {g n : Nat} {D : List Int} (h : Dg w g D) (hb : Below n w w') (hn : g < n) : Dg w' g D := ⟨h.len, (hb.block g hn).trans h.here⟩
theorem Dg.next {w w' : World} {g : Nat} {D : List Int} (h : Dg w g D) (hb : Below w.heap.size w w') : Dg w' g D := h.below hb h.lt
theorem Dg.alloc {w : World} {g : Nat} {D : List Int} (h : Dg w g D) (o : Obj) : Dg (w.alloc o) g D := ⟨h.len, (heapO w o g h.lt).trans h.here⟩
theorem Dg.other {w W : World} {g g' : Nat} {D : List Int} {c : Array Value} {t : TypeId} (h : Dg w g D) (hS : Stored w W g' c t) (hne : g ≠ g') : Dg W g D := ⟨h.len, (hS.other g hne).trans h.here⟩
theorem Stored.dg {w W : World} {g : Nat} {D : List Int} (hS : Stored w W g (A8 D) 25) (hl : D.length = 32) : Dg W g D := ⟨hl, hS.here⟩
def Z32 : List Int := List.replicate 32 0
theorem Dg.new (w : World) (g : Nat) (h : g = w.heap.size) : Dg (w.alloc (.cells Z8x32 25)) g Z32 := ⟨rfl, heapN w _ _ h⟩
theorem wpList_w {P : Program} {ops : Array Oper} {rest : List Oper} {o : Oper} {a : Act} {w : World} {Q : Exit → Act → World → Prop} (hw : Region.wanted o (yielded ops a.tmps) = true)
    (h : ∀ K : Act → World → Prop, (∀ a w, wpList P ops Q rest a w → K a w) → o.wp P a w K Q) : wpList P ops Q (o :: rest) a w := by
  unfold wpList
  simp only [hw, if_true]
  exact .inl (h _ fun _ _ h => h)
section
variable {ops : Array Oper} {rest : List Oper} {o : Oper} {a : Act} {w : World} {Q : Exit → Act → World → Prop} {S : World → Prop}
theorem load_D (hw : Region.wanted o (yielded ops a.tmps) = true) (x : Operand) (ho : o.op = .load 25 x) (g : Nat) (hx : a.eval x = .pointer (some ⟨g, 0, none⟩)) (D : List Int) (h0 : Dg w g D)
    (h : wpList Tryd.prog ops Q rest (a.put o.dst (.agg (A8 D))) w) : wpList Tryd.prog ops Q (o :: rest) a w :=
  wpList_w hw fun _ hK => wp_load_row 25 x ho g hx 25 (A8 D) (0, 0) (.array 32 5) h0.here und25 rfl (by rw [info25, A8_size, h0.len]) (hK _ _ h)
theorem store_D (hgd : o.guard = none) (x y : Operand) (ho : o.op = .store 25 x y) (g : Nat) (D : List Int) (hx : a.eval x = .pointer (some ⟨g, 0, none⟩)) (hy : a.eval y = .agg (A8 D)) (D0 : List Int) (h0 : Dg w g D0) (hl : D.length = 32)
    (h : ∀ W, Stored w W g (A8 D) 25 → wpList Tryd.prog ops Q rest (a.put o.dst undef) W) : wpList Tryd.prog ops Q (o :: rest) a w :=
  wpList_store_W hgd 25 x y ho g (A8 D) hx hy 25 (A8 D0) h0.here (by rw [info25, A8_size, hl]) (by rw [A8_size, A8_size, h0.len, hl]) (A8_one _) h
theorem wpOp_load_D {i : Nat} {K : Act → World → Prop} (hi : ops[i]? = some o) (hgd : o.guard = none) (x : Operand) (ho : o.op = .load 25 x) (g : Nat) (hx : a.eval x = .pointer (some ⟨g, 0, none⟩)) (D : List Int) (h0 : Dg w g D)
    (h : K (a.put o.dst (.agg (A8 D))) w) : wpOp Tryd.prog ops Q i K a w :=
  wpOp_load_row hi hgd 25 x ho g hx 25 (A8 D) (0, 0) (.array 32 5) h0.here und25 rfl (by rw [info25, A8_size, h0.len]) h
theorem wpOp_store_D {i : Nat} {K : Act → World → Prop} (hi : ops[i]? = some o) (hgd : o.guard = none) (x y : Operand) (ho : o.op = .store 25 x y) (g : Nat) (D : List Int) (hx : a.eval x = .pointer (some ⟨g, 0, none⟩)) (hy : a.eval y = .agg (A8 D)) (D0 : List Int) (h0 : Dg w g D0) (hl : D.length = 32)
    (h : ∀ W, Stored w W g (A8 D) 25 → K (a.put o.dst undef) W) : wpOp Tryd.prog ops Q i K a w :=
  wpOp_store_W hi hgd 25 x y ho g (A8 D) hx hy 25 (A8 D0) h0.here (by rw [info25, A8_size, hl]) (by rw [A8_size, A8_size, h0.len, hl]) (A8_one _) h
theorem yields_D (hw : Region.wanted o (yielded ops a.tmps) = true) (x : Operand) (ho : o.op = .load 25 x) (g : Nat) (hx : a.eval x = .pointer (some ⟨g, 0, none⟩)) (D : List Int) (hl : D.length = 32) (hS : ∀ w, S w → Dg w g D) : YieldsIf Tryd.prog ops S o (.agg (A8 D)) a :=
  yieldsIf_rowG hw 25 x ho g hx 25 (A8 D) (0, 0) (.array 32 5) (fun w h => (hS w h).here) und25 rfl (by rw [info25, A8_size, hl])
end
theorem relist {P : Program} {ops : Array Oper} {Q : Exit → Act → World → Prop} {md : Region.Mode} {S : World → Prop} {fuel : Nat} {listed : Array Bool} {a : Act} {w : World} (listed' : Array Bool) (hl : listed = listed')
    (h : wpAnyH P md ops Q S fuel listed' a w) : wpAnyH P md ops Q S fuel listed a w := by subst hl; exact h
/-- The hash of both sides. -/
def hP (xs : List Int) : List Int := hashP KS HS xs
theorem hP_len (xs : List Int) : (hP xs).length = 32 := hashP_len _ _ _
theorem hP_bytes (xs : List Int) : Bytes (hP xs) := hashP_bytes _ _ _
theorem hP_any (w : World) (hT : Tabs KS HS w) (p : Option Addr) (n cap : Nat) (xs : List Int) (hi : In8 w p n cap xs) :
    Calls Tryd.prog 54 #[.slice p n cap] w fun e w' => e = .returned (.agg (A8 (hP xs))) ∧ Below w.heap.size w w' := hash_any KS HS w hT p n cap xs hi
theorem ref_any (t : ByteArray) (l : List UInt8) (xs : List Int) (ht : t = ⟨l.toArray⟩) (hx : toI l = xs) (w : World) (hl : l.length ≤ 140737488355500) :
    Calls Tryd.prog 19 #[.string t] w fun e w' => e = .returned (.agg (A8 (hP xs))) ∧ Below w.heap.size w w' := by
  subst hx
  unfold hP
  rw [hash_same]
  exact refHash_b t l ht w hl
def leafP (xs : List Int) : List Int := hP (0 :: xs)
def knotP (L R : List Int) : List Int := hP (1 :: (L ++ R))
theorem leafP_len (xs : List Int) : (leafP xs).length = 32 := hP_len _
theorem knotP_len (L R : List Int) : (knotP L R).length = 32 := hP_len _
theorem leafP_bytes (xs : List Int) : Bytes (leafP xs) := hP_bytes _
theorem knotP_bytes (L R : List Int) : Bytes (knotP L R) := hP_bytes _
def leafCells (p : Option Addr) (n c : Nat) : Array Value := (Value.slice p n c :: List.replicate 64 (Value.int .u8 0)).toArray
theorem build_leaf (p : Option Addr) (n c : Nat) (w : World) : (Instr.build 184 #[(0, .slice p n c)]).run Tryd.prog w = .ok (.agg (leafCells p n c)) w := by
  kernel_rfl
def knotCells (L R : List Int) : Array Value := (Value.slice none 0 0 :: ((L ++ R).map (Value.int .u8))).toArray
theorem list32 (L : List Int) (h : L.length = 32) : ∃ x0 x1 x2 x3 x4 x5 x6 x7 x8 x9 x10 x11 x12 x13 x14 x15 x16 x17 x18 x19 x20 x21 x22 x23 x24 x25 x26 x27 x28 x29 x30 x31, L = [x0, x1, x2, x3, x4, x5, x6, x7, x8, x9, x10, x11, x12, x13, x14, x15, x16, x17, x18, x19, x20, x21, x22, x23, x24, x25, x26, x27, x28, x29, x30, x31] := by
  match L, h with
  | [x0, x1, x2, x3, x4, x5, x6, x7, x8, x9, x10, x11, x12, x13, x14, x15, x16, x17, x18, x19, x20, x21, x22, x23, x24, x25, x26, x27, x28, x29, x30, x31], _ => exact ⟨_, _, _, _, _, _, _, _, _, _, _, _, _, _, _, _, _, _, _, _, _, _, _, _, _, _, _, _, _, _, _, _, rfl⟩
theorem build_knot (L R : List Int) (hL : L.length = 32) (hR : R.length = 32) (w : World) : (Instr.build 184 #[(1, .agg (A8 L)), (2, .agg (A8 R))]).run Tryd.prog w = .ok (.agg (knotCells L R)) w := by
  obtain ⟨x0, x1, x2, x3, x4, x5, x6, x7, x8, x9, x10, x11, x12, x13, x14, x15, x16, x17, x18, x19, x20, x21, x22, x23, x24, x25, x26, x27, x28, x29, x30, x31, rfl⟩ := list32 L hL
  obtain ⟨y0, y1, y2, y3, y4, y5, y6, y7, y8, y9, y10, y11, y12, y13, y14, y15, y16, y17, y18, y19, y20, y21, y22, y23, y24, y25, y26, y27, y28, y29, y30, y31, rfl⟩ := list32 R hR
  kernel_rfl
end Go.Proofs.YtcmjlhcpoajbkaaDoor
namespace Go.Proofs.YtcmjlhcpoajbkaaDoor
set_option maxRecDepth 10000
open Go.RowKit
theorem toI_cons (b : UInt8) (l : List UInt8) : toI (b :: l) = (b.toNat : Int) :: toI l := rfl
set_option maxHeartbeats 400000 in
theorem refLeaf_any (w : World) (l : List UInt8) (xs : List Int) (hx : toI l = xs) (hl : l.length ≤ 140737488355400) :
    Calls Tryd.prog 94 #[.string ⟨l.toArray⟩] w fun e w' => e = .returned (.agg (A8 (leafP xs))) ∧ Below w.heap.size w w' := by
  have hb0 : Below w.heap.size w (w.alloc (.cells Z8x32 25)) := (Below.refl _ _).alloc (Nat.le_refl _) _
  have d0 : Hid (Dg (w.alloc (.cells Z8x32 25)) w.heap.size Z32) := Dg.new w _ rfl
  have hsz : (ByteArray.mk l.toArray).size = l.length := by show l.toArray.size = _; simp
  go_enter Tryd.func94, Tryd.ntmps94
  go_wp2_with fail
  refine (ref_any _ (0 :: l) (0 :: xs) (ByteArray.mk_append_mk [0] l) (by rw [toI_cons, hx]; rfl) _ (by simp; omega)).mono ?_
  rintro e w2 ⟨rfl, b2⟩
  have d2 : Hid (Dg w2 w.heap.size Z32) := d0.out.next b2
  have B2 : Below w.heap.size w w2 := hb0.trans (b2.mono (by simp))
  have hl := leafP_len xs
  have e1 : hP (0 :: xs) = leafP xs := rfl
  rw [e1]
  clear b2 d0 e1
  obtain ⟨D, hD⟩ : ∃ D, leafP xs = D := ⟨_, rfl⟩
  have HD : Hid (leafP xs = D) := hD
  rw [hD] at hl ⊢
  clear hD
  go_wp2_with (first
    | (with_reducible refine atStore 25 ?_
       refine store_D rfl (.tmp 2) (.tmp 5) rfl w.heap.size D rfl rfl Z32 d2.out hl ?_
       intro U hU))
  exact bodyPost_ret (v := .agg (A8 D)) (results_cell_row rfl _ _ w.heap.size 25 _ (0, 0) _ rfl hU.here und25 rfl (by rw [info25, A8_size, hl])) rfl ⟨by rw [HD.out], hU.below _ _ (Nat.le_refl _) B2⟩
set_option maxHeartbeats 1000000 in
theorem refKnot_any (w : World) (L R : List Int) (hL : L.length = 32) (hR : R.length = 32) (bL : Bytes L) (bR : Bytes R) :
    Calls Tryd.prog 96 #[.agg (A8 L), .agg (A8 R)] w fun e w' => e = .returned (.agg (A8 (knotP L R))) ∧ Below w.heap.size w w' := by
  have hb0 := below3 w (.cells (A8 L) 25) (.cells (A8 R) 25) (.cells Z8x32 25)
  have V0 := heap3 w (.cells (A8 L) 25) (.cells (A8 R) 25) (.cells Z8x32 25)
  have dL : Dg (((w.alloc (.cells (A8 L) 25)).alloc (.cells (A8 R) 25)).alloc (.cells Z8x32 25)) w.heap.size L := ⟨hL, V0.1⟩
  have dR : Dg (((w.alloc (.cells (A8 L) 25)).alloc (.cells (A8 R) 25)).alloc (.cells Z8x32 25)) (w.heap.size + 1) R := ⟨hR, V0.2.1⟩
  have d0 : Dg (((w.alloc (.cells (A8 L) 25)).alloc (.cells (A8 R) 25)).alloc (.cells Z8x32 25)) (w.heap.size + 1 + 1) Z32 := ⟨rfl, V0.2.2⟩
  clear V0
  go_enter Tryd.func96, Tryd.ntmps96
  go_wp2_with fail
  obtain ⟨V, hV⟩ : ∃ V, V = ((w.alloc (.cells (A8 L) 25)).alloc (.cells (A8 R) 25)).alloc (.cells Z8x32 25) := ⟨_, rfl⟩
  rw [← hV] at hb0 dL dR d0
  have bV : Below V.heap.size V V.drew := (Below.refl _ _).drew
  have ltL := dL.lt
  have ltR := dR.lt
  have lt0 := d0.lt
  have hwV : w.heap.size ≤ V.heap.size := hb0.size
  have S0 : Dg V.drew w.heap.size L ∧ Dg V.drew (w.heap.size + 1) R := ⟨⟨dL.len, dL.here⟩, ⟨dR.len, dR.here⟩⟩
  refine wp_region_noPanic ?_
  refine wp_region_held (S := fun W => Dg W w.heap.size L ∧ Dg W (w.heap.size + 1) R) follows ?_
  refine wpAnyH_take (i := 0) (v := .agg (A8 L)) rfl (by kernel_rfl) (by kernel_rfl) (by kernel_rfl) (fun _ _ _ h => h) (yields_D rfl (.tmp 2) rfl w.heap.size rfl L hL (fun W hW => hW.1)) (hV ▸ S0) ?_
  refine wpAnyH_take (i := 3) (v := .agg (A8 R)) rfl (by kernel_rfl) (by kernel_rfl) (by kernel_rfl) (fun _ _ _ h => h) (yields_D rfl (.tmp 3) rfl (w.heap.size + 1) rfl R hR (fun W hW => hW.2)) (hV ▸ S0) ?_
  generalize hg : w.heap.size = g at *
  refine reframe #[true, false, false, true, false, false, false, false] { tmps := #[.agg (A8 L), .agg (A8 R), .pointer (some ⟨g, 0, none⟩), .pointer (some ⟨g + 1, 0, none⟩), .pointer (some ⟨g + 1 + 1, 0, none⟩), .agg (A8 L), undef, undef, .agg (A8 R), undef, undef, undef], defers := [] } (by kernel_rfl) (by rfl) ?_
  refine any_one (i := 1) (by kernel_rfl) ?_
  refine wpOp_call (f := 60) (args := #[.agg (A8 L)]) rfl rfl (by go_simp) ?_
  refine (text_any L _ hL).mono ?_
  rintro e w1 ⟨rfl, b1⟩
  have B1 : Below V.heap.size V w1 := bV.trans (show Below V.heap.size V.drew w1 by rw [hV]; exact b1)
  clear b1
  have S1 := And.intro (dL.below B1 ltL) (dR.below B1 ltR)
  refine ⟨_, rfl, S1, ?_⟩
  have hsL : (ByteArray.mk (toU L).toArray).size = 32 := by show (toU L).toArray.size = _; simp [toU_len, hL]
  have hsR : (ByteArray.mk (toU R).toArray).size = 32 := by show (toU R).toArray.size = _; simp [toU_len, hR]
  have eA : (ByteArray.mk #[1]) ++ (ByteArray.mk (toU L).toArray) = ByteArray.mk (1 :: toU L).toArray := ByteArray.mk_append_mk [1] (toU L)
  have eB : (ByteArray.mk (1 :: toU L).toArray) ++ (ByteArray.mk (toU R).toArray) = ByteArray.mk (1 :: toU L ++ toU R).toArray := ByteArray.mk_append_mk (1 :: toU L) (toU R)
  have hsA : (ByteArray.mk (1 :: toU L).toArray).size = 33 := by show (1 :: toU L).toArray.size = _; simp [toU_len, hL]
  refine reframe #[true, true, false, true, false, false, false, false] { tmps := #[.agg (A8 L), .agg (A8 R), .pointer (some ⟨g, 0, none⟩), .pointer (some ⟨g + 1, 0, none⟩), .pointer (some ⟨g + 1 + 1, 0, none⟩), .agg (A8 L), .string ⟨(toU L).toArray⟩, undef, .agg (A8 R), undef, undef, undef], defers := [] } (by kernel_rfl) (by rfl) ?_
  refine wpAnyH_take (i := 2) (v := .string ⟨(1 :: toU L).toArray⟩) rfl (by kernel_rfl) (by kernel_rfl) (by kernel_rfl) (fun _ _ _ h => h) (.inl ⟨rfl, fun W _ => by go_simp⟩) S1 ?_
  refine reframe #[true, true, true, true, false, false, false, false] { tmps := #[.agg (A8 L), .agg (A8 R), .pointer (some ⟨g, 0, none⟩), .pointer (some ⟨g + 1, 0, none⟩), .pointer (some ⟨g + 1 + 1, 0, none⟩), .agg (A8 L), .string ⟨(toU L).toArray⟩, .string ⟨(1 :: toU L).toArray⟩, .agg (A8 R), undef, undef, undef], defers := [] } (by kernel_rfl) (by rfl) ?_
  refine any_one (i := 4) (by kernel_rfl) ?_
  refine wpOp_call (f := 60) (args := #[.agg (A8 R)]) rfl rfl (by go_simp) ?_
  refine (text_any R _ hR).mono ?_
  rintro e w2 ⟨rfl, b2⟩
  have B2 : Below V.heap.size V w2 := B1.trans (b2.mono B1.size)
  clear b2 B1
  have S2 := And.intro (dL.below B2 ltL) (dR.below B2 ltR)
  refine ⟨_, rfl, S2, ?_⟩
  refine reframe #[true, true, true, true, true, false, false, false] { tmps := #[.agg (A8 L), .agg (A8 R), .pointer (some ⟨g, 0, none⟩), .pointer (some ⟨g + 1, 0, none⟩), .pointer (some ⟨g + 1 + 1, 0, none⟩), .agg (A8 L), .string ⟨(toU L).toArray⟩, .string ⟨(1 :: toU L).toArray⟩, .agg (A8 R), .string ⟨(toU R).toArray⟩, undef, undef], defers := [] } (by kernel_rfl) (by rfl) ?_
  refine wpAnyH_take (i := 5) (v := .string ⟨(1 :: toU L ++ toU R).toArray⟩) rfl (by kernel_rfl) (by kernel_rfl) (by kernel_rfl) (fun _ _ _ h => h) (.inl ⟨rfl, fun W _ => by go_simp⟩) S2 ?_
  refine reframe #[true, true, true, true, true, true, false, false] { tmps := #[.agg (A8 L), .agg (A8 R), .pointer (some ⟨g, 0, none⟩), .pointer (some ⟨g + 1, 0, none⟩), .pointer (some ⟨g + 1 + 1, 0, none⟩), .agg (A8 L), .string ⟨(toU L).toArray⟩, .string ⟨(1 :: toU L).toArray⟩, .agg (A8 R), .string ⟨(toU R).toArray⟩, .string ⟨(1 :: toU L ++ toU R).toArray⟩, undef], defers := [] } (by kernel_rfl) (by rfl) ?_
  refine any_one (i := 6) (by kernel_rfl) ?_
  refine wpOp_call (f := 19) (args := #[.string ⟨(1 :: toU L ++ toU R).toArray⟩]) rfl rfl (by go_simp) ?_
  refine (ref_any _ (1 :: toU L ++ toU R) (1 :: (L ++ R)) rfl (by rw [toI_append, toI_cons, toI_toU L bL, toI_toU R bR]; rfl) _ (by simp [toU_len]; omega)).mono ?_
  rintro e w3 ⟨rfl, b3⟩
  have B3 : Below V.heap.size V w3 := B2.trans (b3.mono B2.size)
  clear b3 B2
  have S3 := And.intro (dL.below B3 ltL) (dR.below B3 ltR)
  refine ⟨_, rfl, S3, ?_⟩
  have hl := knotP_len L R
  have e1 : hP (1 :: (L ++ R)) = knotP L R := rfl
  rw [e1]
  obtain ⟨D, hD⟩ : ∃ D, knotP L R = D := ⟨_, rfl⟩
  have HD : Hid (knotP L R = D) := hD
  rw [hD] at hl ⊢
  clear hD
  have d3 := d0.below B3 lt0
  refine reframe #[true, true, true, true, true, true, true, false] { tmps := #[.agg (A8 L), .agg (A8 R), .pointer (some ⟨g, 0, none⟩), .pointer (some ⟨g + 1, 0, none⟩), .pointer (some ⟨g + 1 + 1, 0, none⟩), .agg (A8 L), .string ⟨(toU L).toArray⟩, .string ⟨(1 :: toU L).toArray⟩, .agg (A8 R), .string ⟨(toU R).toArray⟩, .string ⟨(1 :: toU L ++ toU R).toArray⟩, .agg (A8 D)], defers := [] } (by kernel_rfl) (by rfl) ?_
  refine any_one (i := 7) (by kernel_rfl) ?_
  refine wpOp_store_D rfl rfl (.tmp 4) (.tmp 11) rfl (g + 1 + 1) D rfl rfl Z32 d3 hl ?_
  intro U hU
  have HB : Hid (Below g w U) := hU.below _ _ (by omega) (hb0.trans (B3.mono hwV))
  refine ⟨⟨S3.1.other hU (by omega), S3.2.other hU (by omega)⟩, ?_⟩
  refine reframe #[true, true, true, true, true, true, true, true] { tmps := #[.agg (A8 L), .agg (A8 R), .pointer (some ⟨g, 0, none⟩), .pointer (some ⟨g + 1, 0, none⟩), .pointer (some ⟨g + 1 + 1, 0, none⟩), .agg (A8 L), .string ⟨(toU L).toArray⟩, .string ⟨(1 :: toU L).toArray⟩, .agg (A8 R), .string ⟨(toU R).toArray⟩, .string ⟨(1 :: toU L ++ toU R).toArray⟩, .agg (A8 D)], defers := [] } (by kernel_rfl) (by rfl) ?_
  refine wpAnyH_done (by kernel_rfl) ?_ _
  refine NoPanic.normal ?_
  have hUh : Hid (U.heap[g + 1 + 1]? = _) := hU.here
  clear hU S1 S2 S3 d3 B3 hb0 bV dL dR d0 eA eB
  go_wp2_with fail
  exact bodyPost_ret (v := .agg (A8 D)) (results_cell_row rfl _ _ (g + 1 + 1) 25 _ (0, 0) _ rfl hUh.out und25 rfl (by rw [info25, A8_size, hl])) rfl ⟨by rw [HD.out], by rw [hg]; exact HB.out⟩
end Go.Proofs.YtcmjlhcpoajbkaaDoor
