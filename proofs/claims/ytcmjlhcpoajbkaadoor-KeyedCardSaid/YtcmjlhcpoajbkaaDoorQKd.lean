import Derived.Test.YtcmjlhcpoajbkaaDoorQDs
namespace Go.Proofs.YtcmjlhcpoajbkaaDoor
set_option maxRecDepth 10000
set_option linter.unusedSimpArgs false
open Go.RowKit
open Extern.Stop (cell)
theorem A8_cells (D : List Int) (hb : Bytes D) : A8 D = ((toU D).map cell).toArray := by
  conv => lhs; rw [← toI_toU D hb]
  unfold A8 toI
  rw [List.map_map]
  rfl
theorem toU_inj {D E : List Int} (hD : Bytes D) (hE : Bytes E) : (toU D == toU E) = decide (D = E) := by
  by_cases h : D = E
  · subst h; simp
  · have : ¬ toU D = toU E := fun e => h (by rw [← toI_toU D hD, ← toI_toU E hE, e])
    simp [h, this]
theorem eql_D (D E : List Int) (hl : D.length = 32) (hb : Bytes D) (hl' : E.length = 32) (hb' : Bytes E) (w : World) : (binOp .eql 25 (.agg (A8 D)) (.agg (A8 E))).run Tryd.prog w = .ok (.bool (decide (D = E))) w := by
  have h := run_eql_bytes (P := Tryd.prog) w 25 5 32 und25 Tryd.underlying5 Tryd.sizeOf5 (toU D) (toU E) (by rw [toU_len, hl]) (by rw [toU_len, hl'])
  rw [A8_cells D hb, A8_cells E hb', h, toU_inj hb hb']
theorem neq_D (D E : List Int) (hl : D.length = 32) (hb : Bytes D) (hl' : E.length = 32) (hb' : Bytes E) (w : World) : (binOp .neq 25 (.agg (A8 D)) (.agg (A8 E))).run Tryd.prog w = .ok (.bool (!decide (D = E))) w := by
  have h := run_equalIn_bytes (P := Tryd.prog) w 9998 25 5 32 und25 Tryd.underlying5 Tryd.sizeOf5 (toU D) (toU E) (by rw [toU_len, hl]) (by rw [toU_len, hl'])
  rw [A8_cells D hb, A8_cells E hb', run_neq_struct, h, toU_inj hb hb']
  rfl
section
variable {ops : Array Oper} {rest : List Oper} {o : Oper} {a : Act} {w : World} {Q : Exit → Act → World → Prop} {S : World → Prop}
theorem yields_eql (hw : Region.wanted o (yielded ops a.tmps) = true) (x y : Operand) (ho : o.op = .binOp .eql 25 x y 25) (D E : List Int) (hl : D.length = 32) (hb : Bytes D) (hl' : E.length = 32) (hb' : Bytes E)
    (hx : a.eval x = .agg (A8 D)) (hy : a.eval y = .agg (A8 E)) : YieldsIf Tryd.prog ops S o (.bool (decide (D = E))) a :=
  .inl ⟨hw, fun w _ => by
    have e := eql_D D E hl hb hl' hb' w
    have g := run_eqGuard_agg (P := Tryd.prog) w .eql 25 x y (A8 D) (A8 E) (by kernel_rfl)
    unfold execOp
    simp only [ho, hx, hy, Sem.run_bind, g, e, Result.andThen_ok, Sem.run_pure]⟩
/-- The operation of '==' on two digests, in a plain region. -/
theorem wpList_eql (hw : Region.wanted o (yielded ops a.tmps) = true) (x y : Operand) (ho : o.op = .binOp .eql 25 x y 25) (D E : List Int) (hl : D.length = 32) (hb : Bytes D) (hl' : E.length = 32) (hb' : Bytes E)
    (hx : a.eval x = .agg (A8 D)) (hy : a.eval y = .agg (A8 E)) (h : wpList Tryd.prog ops Q rest (a.put o.dst (.bool (decide (D = E)))) w) : wpList Tryd.prog ops Q (o :: rest) a w := by
  have e := eql_D D E hl hb hl' hb' w
  have g := run_eqGuard_agg (P := Tryd.prog) w .eql 25 x y (A8 D) (A8 E) (by kernel_rfl)
  refine wpList_w hw fun _ hK => ?_
  unfold Oper.wp execOp
  simp only [ho, hx, hy, Sem.run_bind, g, e, Result.andThen_ok, Sem.run_pure]
  exact hK _ _ h
end
theorem atBin {P : Program} {ops : Array Oper} {Q : Exit → Act → World → Prop} {rest : List Oper} {a : Act} {w : World} {d x y t p af g} (op : BinOp) (ty ty' : TypeId)
    (h : wpList P ops Q (⟨d, .binOp op ty x y ty', t, p, af, g⟩ :: rest) a w) : wpList P ops Q (⟨d, .binOp op ty x y ty', t, p, af, g⟩ :: rest) a w := h
end Go.Proofs.YtcmjlhcpoajbkaaDoor
