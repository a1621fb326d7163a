import Derived.Test.YtcmjlhcpoajbkaaDoorQHh
namespace Go.Proofs.YtcmjlhcpoajbkaaDoor
set_option maxRecDepth 10000
set_option linter.unusedSimpArgs false
open Go.RowKit
theorem agg25 (w : World) : (isAgg 25).run Tryd.prog w = .ok true w := by
  unfold isAgg
  rw [Sem.run_bind, run_underlying und25 w]
  rfl
theorem agg3 (w : World) : (isAgg 3).run Tryd.prog w = .ok false w := by
  unfold isAgg
  rw [Sem.run_bind, run_underlying Tryd.underlying3 w]
  rfl
theorem ext_R (n : Int) (R T : List Int) (hR : R.length = 32) : (headCells n R T).extract 1 33 = A8 R := by
  apply Array.ext'
  simp [headCells, A8, List.extract_eq_take_drop, hR]
theorem ext_T (n : Int) (R T : List Int) (hR : R.length = 32) (hT : T.length = 32) : (headCells n R T).extract 33 65 = A8 T := by
  apply Array.ext'
  simp [headCells, A8, List.extract_eq_take_drop, hR]
  rw [List.take_of_length_le (by simp [hT])]
theorem sz25 (w : World) : (sizeOf 25).run Tryd.prog w = .ok 32 w := by
  have h := info25
  cases hq : Tryd.prog.info? 25 with
  | none => rw [hq] at h; cases h
  | some i =>
    rw [hq] at h
    have hs : i.size = 32 := by simpa using h
    simp [sizeOf, typeInfo, hq, hs]
theorem part_25 (cs : Array Value) (off : Nat) (w : World) : (part 25 cs off).run Tryd.prog w = .ok (.agg (cs.extract off (off + 32))) w := by
  have h3 := sz25 w
  have h4 := agg25 w
  unfold part
  simp [Sem.run_bind, h3, h4]
theorem part_3 (cs : Array Value) (off : Nat) (v : Value) (h : cs[off]? = some v) (w : World) : (part 3 cs off).run Tryd.prog w = .ok v w := by
  have h4 := agg3 w
  unfold part
  simp [Sem.run_bind, h4, h]
theorem fields42' : ∃ f0 f1 f2 : Field, (Tryd.prog.fieldsOf 42).toList = [f0, f1, f2] ∧ (f0.name ≠ "_" ∧ f0.type = 3 ∧ f0.offset = 0) ∧ (f1.name ≠ "_" ∧ f1.type = 25 ∧ f1.offset = 1) ∧ (f2.name ≠ "_" ∧ f2.type = 25 ∧ f2.offset = 33) := ⟨_, _, _, rfl, ⟨by decide, rfl, rfl⟩, ⟨by decide, rfl, rfl⟩, ⟨by decide, rfl, rfl⟩⟩
theorem und42' : Tryd.prog.underlying 42 = some (.struct (Tryd.prog.fieldsOf 42)) := by kernel_rfl
theorem eqIn_D (d : Nat) (D E : List Int) (hl : D.length = 32) (hb : Bytes D) (hl' : E.length = 32) (hb' : Bytes E) (w : World) : (Op.equalIn (d + 2) 25 (.agg (A8 D)) (.agg (A8 E))).run Tryd.prog w = .ok (decide (D = E)) w := by
  have h := run_equalIn_bytes (P := Tryd.prog) w d 25 5 32 und25 Tryd.underlying5 Tryd.sizeOf5 (toU D) (toU E) (by rw [toU_len, hl]) (by rw [toU_len, hl'])
  rw [A8_cells D hb, A8_cells E hb', h, toU_inj hb hb']
/-- Are two heads one? -/
theorem eqIn_H (n m : Int) (R T R' T' : List Int) (h1 : R.length = 32) (h2 : T.length = 32) (h3 : R'.length = 32) (h4 : T'.length = 32) (b1 : Bytes R) (b2 : Bytes T) (b3 : Bytes R') (b4 : Bytes T') (w : World) :
    (Op.equalIn 10000 42 (.agg (headCells n R T)) (.agg (headCells m R' T'))).run Tryd.prog w = .ok (decide (n = m ∧ R = R' ∧ T = T')) w := by
  rw [run_equalIn_struct w 9999 42 _ _ und42' (by kernel_rfl)]
  obtain ⟨f0, f1, f2, hf, ⟨g0, t0, o0⟩, ⟨g1, t1, o1⟩, ⟨g2, t2, o2⟩⟩ := fields42'
  have e0 : (headCells n R T)[0]? = some (.int .i64 n) := rfl
  have e0' : (headCells m R' T')[0]? = some (.int .i64 m) := rfl
  have q0 : (Op.equalIn 9999 3 (.int .i64 n) (.int .i64 m)).run Tryd.prog w = .ok (n == m) w := run_equalIn_int w 9998 3 .i64 .i64 n m Tryd.underlying3
  have q1 : (Op.equalIn 9999 25 (.agg (A8 R)) (.agg (A8 R'))).run Tryd.prog w = .ok (decide (R = R')) w := eqIn_D 9997 R R' h1 b1 h3 b3 w
  have q2 : (Op.equalIn 9999 25 (.agg (A8 T)) (.agg (A8 T'))).run Tryd.prog w = .ok (decide (T = T')) w := eqIn_D 9997 T T' h2 b2 h4 b4 w
  have x1 := ext_R n R T h1
  have x2 := ext_R m R' T' h3
  have x3 := ext_T n R T h1 h2
  have x4 := ext_T m R' T' h3 h4
  rw [hf]
  cases hd0 : (n == m) with
  | false =>
    rw [hd0] at q0
    simp only [Op.eqFields, g0, g1, g2, t0, t1, t2, o0, o1, o2, ne_eq, not_false_eq_true, if_true, Sem.run_bind, Sem.run_ite, Sem.run_pure, part_3 _ _ _ e0, part_3 _ _ _ e0', part_25, Result.andThen_ok, q0, x1, x2, x3, x4, q1, q2, Nat.reduceAdd, Bool.not_true, Bool.not_false, Bool.false_eq_true, if_false]
    have : ¬ n = m := by simpa using hd0
    simp [this]
  | true =>
    rw [hd0] at q0
    have c0 : n = m := by simpa using hd0
    cases hd1 : decide (R = R') with
    | false =>
      rw [hd1] at q1
      simp only [Op.eqFields, g0, g1, g2, t0, t1, t2, o0, o1, o2, ne_eq, not_false_eq_true, if_true, Sem.run_bind, Sem.run_ite, Sem.run_pure, part_3 _ _ _ e0, part_3 _ _ _ e0', part_25, Result.andThen_ok, q0, x1, x2, x3, x4, q1, q2, Nat.reduceAdd, Bool.not_true, Bool.not_false, Bool.false_eq_true, if_false]
      simp [of_decide_eq_false hd1]
    | true =>
      rw [hd1] at q1
      cases hd2 : decide (T = T') with
      | false =>
        rw [hd2] at q2
        simp only [Op.eqFields, g0, g1, g2, t0, t1, t2, o0, o1, o2, ne_eq, not_false_eq_true, if_true, Sem.run_bind, Sem.run_ite, Sem.run_pure, part_3 _ _ _ e0, part_3 _ _ _ e0', part_25, Result.andThen_ok, q0, x1, x2, x3, x4, q1, q2, Nat.reduceAdd, Bool.not_true, Bool.not_false, Bool.false_eq_true, if_false]
        simp [of_decide_eq_false hd2]
      | true =>
        rw [hd2] at q2
        simp only [Op.eqFields, g0, g1, g2, t0, t1, t2, o0, o1, o2, ne_eq, not_false_eq_true, if_true, Sem.run_bind, Sem.run_ite, Sem.run_pure, part_3 _ _ _ e0, part_3 _ _ _ e0', part_25, Result.andThen_ok, q0, x1, x2, x3, x4, q1, q2, Nat.reduceAdd, Bool.not_true, Bool.not_false, Bool.false_eq_true, if_false]
        simp [c0, of_decide_eq_true hd1, of_decide_eq_true hd2]
end Go.Proofs.YtcmjlhcpoajbkaaDoor
