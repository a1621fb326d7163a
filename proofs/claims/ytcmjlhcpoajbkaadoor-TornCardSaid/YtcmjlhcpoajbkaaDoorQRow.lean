import Derived.Test.YtcmjlhcpoajbkaaDoorQTag
import Derived.Deep.AppendLies
import Derived.Test.YtcmjlhcpoajbkaaDoorQRef
import Derived.StillTailTactics
import Derived.Deep.RegionLaw
import Derived.Stop.BytesEq
import Derived.Test.YtcmjlhcpoajbkaaDoorTie
import Derived.Test.YtcmjlhcpoajbkaaDoorCards
import Derived.ProofKit
import Derived.OpenShut
import Derived.ShutString
import Derived.ChangeOld
import Derived.LaidMore
import Derived.SizedLaws
import Derived.Stop.Joined
import Derived.Stop.LaidErr
import Derived.Lib.LaidTab
import Derived.SevenTiedAt
namespace Go.Proofs.YtcmjlhcpoajbkaaDoor
set_option maxRecDepth 10000
open Go.RowKit
theorem info5' : ∃ i, Tryd.prog.info? 5 = some i ∧ i.zero = some (.int .u8 0) ∧ i.size = 1 ∧ i.bytes = 1 := ⟨_, rfl, rfl, rfl, rfl⟩
theorem owns8 {w : World} {B : Nat} {v : Value} {l : List Int} {n : Nat} (h : w.ownsRow B 5 1 v n (l.map (Value.int .u8))) (hn : 0 < n) :
    ∃ g cap, v = .slice (some ⟨g, 0, none⟩) n cap ∧ B ≤ g ∧ g < w.heap.size ∧ n ≤ cap ∧ cap ≤ maxLen ∧ l.length = n ∧ ∀ j, j < n → w.cell? ⟨g, j, none⟩ = some (.int .u8 (l.getD j 0)) := by
  obtain ⟨hl, ⟨_, h0⟩ | ⟨g, cap, cur, rfl, hg, hh, hc, hm, hs, ht⟩⟩ := h
  · omega
  · have hl' : l.length = n := by simpa using hl
    refine ⟨g, cap, rfl, hg, row_lt hh, hc, hm, hl', fun j hj => ?_⟩
    rw [cell_of_row _ _ _ _ _ _ hh]
    have e := congrArg (fun z : List Value => z[j]?) ht
    simp only [Nat.mul_one, List.getElem?_take, if_pos hj, List.getElem?_map] at e
    rw [← Array.getElem?_toList, e]
    rw [List.getD_eq_getElem?_getD, List.getElem?_eq_getElem (by omega)]
    rfl
theorem wpList_app8 {ops : Array Oper} {rest : List Oper} {o : Oper} {a : Act} {Q : Exit → Act → World → Prop} {w : World} (hgd : o.guard = none) (s x : Operand)
    (ho : o.op = .call { callee := .builtin .append, args := #[s, x], argTypes := #[22, 22] }) (B : Nat) (v : Value) (l : List Int) (n : Nat) (hs : a.eval s = v)
    (hown : w.ownsRow B 5 1 v n (l.map (Value.int .u8))) (ad : Addr) (m c : Nat) (ys : List Int) (hx : a.eval x = .slice (some ad) m c) (hl : ys.length = m)
    (hnews : ∀ j, j < m → w.cell? (ad.add j) = some (.int .u8 (ys.getD j 0))) (hm : 0 < m) (hn : n + m ≤ 140737488355328) (hB : B ≤ w.heap.size)
    (h : ∀ v' w', w'.ownsRow B 5 1 v' (n + m) ((l ++ ys).map (Value.int .u8)) → w.heap.size ≤ w'.heap.size → (∀ w0, Below B w0 w → Below B w0 w') → wpList Tryd.prog ops Q rest (a.put o.dst v') w') : wpList Tryd.prog ops Q (o :: rest) a w := by
  obtain ⟨i, hi, hz, hsz, hby⟩ := info5'
  refine wpList_append_lies w hgd s x 22 ho B 5 i (.int .u8 0) 1 1 Tryd.underlying22 hi hz hsz hby rfl (by omega) v n _ hs hown ad m c (ys.map (Value.int .u8)) hx (by simp [hl]) (fun j u hu => ?_) (fun u hu => ?_) hm (by unfold maxLen; omega) (by omega) hB _ rfl ?_
  · have hj : j < ys.length := by
      rcases Nat.lt_or_ge j ys.length with h' | h'
      · exact h'
      · rw [List.getElem?_eq_none (by simpa using h')] at hu; cases hu
    rw [hnews j (by omega)]
    simp only [List.getElem?_map, List.getElem?_eq_getElem hj, Option.map_some, Option.some.injEq] at hu
    rw [← hu, List.getD_eq_getElem?_getD, List.getElem?_eq_getElem hj]; rfl
  · simp only [List.mem_map] at hu; obtain ⟨y, _, rfl⟩ := hu; rfl
  · intro g cap w' h1 h2 h3 h4
    refine h _ w' (by simpa using h1) h2.size (fun w0 hb => hb.grown h2 hB (fun k hk => ?_))
    rcases hown.2 with ⟨rfl, _⟩ | ⟨g', c', cur, rfl, hg', _⟩
    · cases hk
    · simp only [Value.ownBlock, Option.some.injEq] at hk; omega
theorem eql_nil (a : Option Addr) (l c : Nat) (w : World) : (binOp .eql 22 (.slice a l c) (.slice none 0 0)).run Tryd.prog w = .ok (.bool a.isNone) w := by
  simp only [binOp]
  simp [run_equal_slice_nil w 22 5 a l c Tryd.underlying22]
end Go.Proofs.YtcmjlhcpoajbkaaDoor
namespace Go.Proofs.YtcmjlhcpoajbkaaDoor
set_option maxRecDepth 10000
open Go.RowKit
open Extern.Stop (cell)
section
variable {P : Program} {ops : Array Oper} {Q : Exit → Act → World → Prop} {S : World → Prop}
theorem wpOp_callG {i : Nat} {o : Oper} {K : Act → World → Prop} {a : Act} {w : World} {f : FuncId} {args : Array Value} (hi : ops[i]? = some o) (hw : Region.wanted o (yielded ops a.tmps) = true)
    (hrun : (execOp a.eval o).run P w = .ok (.enter f args) w) (h : Calls P f args w fun e w'' => ∃ v, e = .returned v ∧ K (a.put o.dst v) w'') : wpOp P ops Q i K a w := by
  unfold wpOp
  simp only [hi, hw, if_true]
  refine .inl ?_
  unfold Oper.wp
  rw [hrun]
  exact h.mono fun e w'' ⟨v, he, hk⟩ => by subst he; exact hk
theorem yieldsIf_rowG {o : Oper} {a : Act} (hw : Region.wanted o (yielded ops a.tmps) = true) (ty : TypeId) (x : Operand) (ho : o.op = .load ty x)
    (g : Nat) (hx : a.eval x = .pointer (some ⟨g, 0, none⟩)) (t : TypeId) (cs : Array Value) (fr : Nat × Nat) (d : TypeDesc) (hS : ∀ w, S w → w.heap[g]? = some (.cells cs t fr))
    (hu : P.underlying ty = some d) (hd : (match d with | .struct _ | .array _ _ => true | _ => false) = true) (hi : (P.info? ty).map (·.size) = some cs.size) : YieldsIf P ops S o (.agg cs) a :=
  .inl ⟨hw, fun w hS' => by
    unfold execOp
    simp only [ho, hx, Instr.loadAt, Instr.sureAddr, Sem.run_bind, Sem.run_pure, Result.andThen_ok, run_loadVar_row w g t ty cs fr d (hS w hS') hu hd hi]⟩
end
end Go.Proofs.YtcmjlhcpoajbkaaDoor
namespace Go.Proofs.YtcmjlhcpoajbkaaDoor
set_option maxRecDepth 100000
open Go.ChangeShapes Go.WideShapes Go.ChangeAt Go.RowKit
theorem own : ownKnob Tryd.prog.godebug = none := by kernel_rfl
theorem laidOut : laidOutB Tryd.prog = true := by kernel_rfl
def nStart : String := Rows.hashesRow.named.getD 0 default
def nRounds : String := Rows.hashesRow.named.getD 1 default
theorem gStart : Tryd.prog.globalNamed nStart = some 0 := by kernel_rfl
theorem gRounds : Tryd.prog.globalNamed nRounds = some 1 := by kernel_rfl
theorem tStart : (Tryd.prog.globals[0]?).map (·.type) = some 143 := by kernel_rfl
theorem tRounds : (Tryd.prog.globals[1]?).map (·.type) = some 167 := by kernel_rfl
def laid2 : List (String × DataW Unit) := Rows.hashesRow.laid
theorem door_met (os : Os) (args : Array Value) : laidMetH Tryd.prog laid2 ((World.doorLaid Tryd.prog 400 os).forCall (fun _ _ => 0) ⟨#[], args, []⟩).memory :=
  laidMetH_of_parts3 (fuel := 8) (laidMet_of_run' 8 (by kernel_rfl) (by kernel_rfl)) (by kernel_rfl) (by kernel_rfl)
theorem block_of_var {W : World} {name : String} {g : Nat} {cs : Array Value} (hg : Tryd.prog.globalNamed name = some g) (h : W.var? Tryd.prog name = some cs) : ∃ t fr, W.heap[g]? = some (.cells cs t fr) := by
  unfold World.var? at h
  rw [hg] at h
  simp only [Option.bind_some] at h
  split at h
  · rename_i cs' t fr e
    cases h
    exact ⟨t, fr, e⟩
  · cases h
theorem tabs_of_laid {W : World} (h : laidMetH Tryd.prog laid2 W) : Tabs KS HS W := by
  rw [MakeChecks.laidMetH_plain _ _ _ (by kernel_rfl)] at h
  have h : laidMet Tryd.prog [(nStart, Lib.tabData .u32 HS), (nRounds, Lib.tabData .u32 KS)] W := h
  have h1 : Lib.TabIs Tryd.prog W nStart .u32 HS := Lib.tabIs_of_head (n := 8) gStart tStart und40 Tryd.underlying98 (by kernel_rfl) (by kernel_rfl) h
  have h2 : Lib.TabIs Tryd.prog W nRounds .u32 KS := Lib.tabIs_of_head (n := 64) gRounds tRounds und49 Tryd.underlying98 (by kernel_rfl) (by kernel_rfl) (laidMet.tail h)
  exact ⟨rfl, rfl, block_of_var gStart h1, block_of_var gRounds h2⟩
theorem bytes5 : Tryd.prog.bytesOf 5 = 1 := by kernel_rfl
end Go.Proofs.YtcmjlhcpoajbkaaDoor
