import Derived.Test.YtcmjlhcpoajbkaaDoorPlain
import Derived.WalkSpells
import Derived.WalkLawsBesides
import Derived.Deep.QuietTactic
import Derived.BigQuiet
namespace Go.Proofs.YtcmjlhcpoajbkaaDoor
open Go.RowKit
theorem rot2 (x : Int) (w : World) :
    Calls Tryd.prog 132 #[.int .u32 x, .int .i64 (-2)] w fun e w' => e = .returned (.int .u32 (rr 2 x)) ∧ w' = w := by
  have hb : bits BinOp.and IntKind.u64 (IntKind.u64.wrap (-2)) 31 = 30 := by decide
  go_enter Tryd.func132, Tryd.ntmps132
  go_wp2
  go_ret
  exact ⟨ret_int (by rw [rr, bits_or_comm]; rfl), rfl⟩
theorem right2 (x : Int) (w : World) :
    Calls Tryd.prog 59 #[.int .u32 x, .int .i64 2] w fun e w' => e = .returned (.int .u32 (rr 2 x)) ∧ ∃ nq, w' = w.drewN nq := by
  go_enter Tryd.func59, Tryd.ntmps59
  go_wp2
  go_quiet (fail)
  go_wp2
  go_ret
  exact ⟨ret_int (by rw [rr]; rfl), _, rfl⟩
theorem rot6 (x : Int) (w : World) :
    Calls Tryd.prog 132 #[.int .u32 x, .int .i64 (-6)] w fun e w' => e = .returned (.int .u32 (rr 6 x)) ∧ w' = w := by
  have hb : bits BinOp.and IntKind.u64 (IntKind.u64.wrap (-6)) 31 = 26 := by decide
  go_enter Tryd.func132, Tryd.ntmps132
  go_wp2
  go_ret
  exact ⟨ret_int (by rw [rr, bits_or_comm]; rfl), rfl⟩
theorem right6 (x : Int) (w : World) :
    Calls Tryd.prog 59 #[.int .u32 x, .int .i64 6] w fun e w' => e = .returned (.int .u32 (rr 6 x)) ∧ ∃ nq, w' = w.drewN nq := by
  go_enter Tryd.func59, Tryd.ntmps59
  go_wp2
  go_quiet (fail)
  go_wp2
  go_ret
  exact ⟨ret_int (by rw [rr]; rfl), _, rfl⟩
theorem rot7 (x : Int) (w : World) :
    Calls Tryd.prog 132 #[.int .u32 x, .int .i64 (-7)] w fun e w' => e = .returned (.int .u32 (rr 7 x)) ∧ w' = w := by
  have hb : bits BinOp.and IntKind.u64 (IntKind.u64.wrap (-7)) 31 = 25 := by decide
  go_enter Tryd.func132, Tryd.ntmps132
  go_wp2
  go_ret
  exact ⟨ret_int (by rw [rr, bits_or_comm]; rfl), rfl⟩
theorem right7 (x : Int) (w : World) :
    Calls Tryd.prog 59 #[.int .u32 x, .int .i64 7] w fun e w' => e = .returned (.int .u32 (rr 7 x)) ∧ ∃ nq, w' = w.drewN nq := by
  go_enter Tryd.func59, Tryd.ntmps59
  go_wp2
  go_quiet (fail)
  go_wp2
  go_ret
  exact ⟨ret_int (by rw [rr]; rfl), _, rfl⟩
theorem rot11 (x : Int) (w : World) :
    Calls Tryd.prog 132 #[.int .u32 x, .int .i64 (-11)] w fun e w' => e = .returned (.int .u32 (rr 11 x)) ∧ w' = w := by
  have hb : bits BinOp.and IntKind.u64 (IntKind.u64.wrap (-11)) 31 = 21 := by decide
  go_enter Tryd.func132, Tryd.ntmps132
  go_wp2
  go_ret
  exact ⟨ret_int (by rw [rr, bits_or_comm]; rfl), rfl⟩
theorem right11 (x : Int) (w : World) :
    Calls Tryd.prog 59 #[.int .u32 x, .int .i64 11] w fun e w' => e = .returned (.int .u32 (rr 11 x)) ∧ ∃ nq, w' = w.drewN nq := by
  go_enter Tryd.func59, Tryd.ntmps59
  go_wp2
  go_quiet (fail)
  go_wp2
  go_ret
  exact ⟨ret_int (by rw [rr]; rfl), _, rfl⟩
theorem rot13 (x : Int) (w : World) :
    Calls Tryd.prog 132 #[.int .u32 x, .int .i64 (-13)] w fun e w' => e = .returned (.int .u32 (rr 13 x)) ∧ w' = w := by
  have hb : bits BinOp.and IntKind.u64 (IntKind.u64.wrap (-13)) 31 = 19 := by decide
  go_enter Tryd.func132, Tryd.ntmps132
  go_wp2
  go_ret
  exact ⟨ret_int (by rw [rr, bits_or_comm]; rfl), rfl⟩
theorem right13 (x : Int) (w : World) :
    Calls Tryd.prog 59 #[.int .u32 x, .int .i64 13] w fun e w' => e = .returned (.int .u32 (rr 13 x)) ∧ ∃ nq, w' = w.drewN nq := by
  go_enter Tryd.func59, Tryd.ntmps59
  go_wp2
  go_quiet (fail)
  go_wp2
  go_ret
  exact ⟨ret_int (by rw [rr]; rfl), _, rfl⟩
theorem rot17 (x : Int) (w : World) :
    Calls Tryd.prog 132 #[.int .u32 x, .int .i64 (-17)] w fun e w' => e = .returned (.int .u32 (rr 17 x)) ∧ w' = w := by
  have hb : bits BinOp.and IntKind.u64 (IntKind.u64.wrap (-17)) 31 = 15 := by decide
  go_enter Tryd.func132, Tryd.ntmps132
  go_wp2
  go_ret
  exact ⟨ret_int (by rw [rr, bits_or_comm]; rfl), rfl⟩
theorem right17 (x : Int) (w : World) :
    Calls Tryd.prog 59 #[.int .u32 x, .int .i64 17] w fun e w' => e = .returned (.int .u32 (rr 17 x)) ∧ ∃ nq, w' = w.drewN nq := by
  go_enter Tryd.func59, Tryd.ntmps59
  go_wp2
  go_quiet (fail)
  go_wp2
  go_ret
  exact ⟨ret_int (by rw [rr]; rfl), _, rfl⟩
theorem rot18 (x : Int) (w : World) :
    Calls Tryd.prog 132 #[.int .u32 x, .int .i64 (-18)] w fun e w' => e = .returned (.int .u32 (rr 18 x)) ∧ w' = w := by
  have hb : bits BinOp.and IntKind.u64 (IntKind.u64.wrap (-18)) 31 = 14 := by decide
  go_enter Tryd.func132, Tryd.ntmps132
  go_wp2
  go_ret
  exact ⟨ret_int (by rw [rr, bits_or_comm]; rfl), rfl⟩
theorem right18 (x : Int) (w : World) :
    Calls Tryd.prog 59 #[.int .u32 x, .int .i64 18] w fun e w' => e = .returned (.int .u32 (rr 18 x)) ∧ ∃ nq, w' = w.drewN nq := by
  go_enter Tryd.func59, Tryd.ntmps59
  go_wp2
  go_quiet (fail)
  go_wp2
  go_ret
  exact ⟨ret_int (by rw [rr]; rfl), _, rfl⟩
theorem rot19 (x : Int) (w : World) :
    Calls Tryd.prog 132 #[.int .u32 x, .int .i64 (-19)] w fun e w' => e = .returned (.int .u32 (rr 19 x)) ∧ w' = w := by
  have hb : bits BinOp.and IntKind.u64 (IntKind.u64.wrap (-19)) 31 = 13 := by decide
  go_enter Tryd.func132, Tryd.ntmps132
  go_wp2
  go_ret
  exact ⟨ret_int (by rw [rr, bits_or_comm]; rfl), rfl⟩
theorem right19 (x : Int) (w : World) :
    Calls Tryd.prog 59 #[.int .u32 x, .int .i64 19] w fun e w' => e = .returned (.int .u32 (rr 19 x)) ∧ ∃ nq, w' = w.drewN nq := by
  go_enter Tryd.func59, Tryd.ntmps59
  go_wp2
  go_quiet (fail)
  go_wp2
  go_ret
  exact ⟨ret_int (by rw [rr]; rfl), _, rfl⟩
theorem rot22 (x : Int) (w : World) :
    Calls Tryd.prog 132 #[.int .u32 x, .int .i64 (-22)] w fun e w' => e = .returned (.int .u32 (rr 22 x)) ∧ w' = w := by
  have hb : bits BinOp.and IntKind.u64 (IntKind.u64.wrap (-22)) 31 = 10 := by decide
  go_enter Tryd.func132, Tryd.ntmps132
  go_wp2
  go_ret
  exact ⟨ret_int (by rw [rr, bits_or_comm]; rfl), rfl⟩
theorem right22 (x : Int) (w : World) :
    Calls Tryd.prog 59 #[.int .u32 x, .int .i64 22] w fun e w' => e = .returned (.int .u32 (rr 22 x)) ∧ ∃ nq, w' = w.drewN nq := by
  go_enter Tryd.func59, Tryd.ntmps59
  go_wp2
  go_quiet (fail)
  go_wp2
  go_ret
  exact ⟨ret_int (by rw [rr]; rfl), _, rfl⟩
theorem rot25 (x : Int) (w : World) :
    Calls Tryd.prog 132 #[.int .u32 x, .int .i64 (-25)] w fun e w' => e = .returned (.int .u32 (rr 25 x)) ∧ w' = w := by
  have hb : bits BinOp.and IntKind.u64 (IntKind.u64.wrap (-25)) 31 = 7 := by decide
  go_enter Tryd.func132, Tryd.ntmps132
  go_wp2
  go_ret
  exact ⟨ret_int (by rw [rr, bits_or_comm]; rfl), rfl⟩
theorem right25 (x : Int) (w : World) :
    Calls Tryd.prog 59 #[.int .u32 x, .int .i64 25] w fun e w' => e = .returned (.int .u32 (rr 25 x)) ∧ ∃ nq, w' = w.drewN nq := by
  go_enter Tryd.func59, Tryd.ntmps59
  go_wp2
  go_quiet (fail)
  go_wp2
  go_ret
  exact ⟨ret_int (by rw [rr]; rfl), _, rfl⟩
theorem bs1_any (x : Int) (w : World) :
    Calls Tryd.prog 111 #[.int .u32 x] w fun e w' => e = .returned (.int .u32 (bs1 x)) ∧ w' = w := by
  go_enter Tryd.func111, Tryd.ntmps111
  go_wp2_with (first | (go_at_call 127; go_in))
  refine (rot6 x _).mono ?_
  rintro e w' ⟨rfl, rfl⟩
  go_wp2_with (first | (go_at_call 127; go_in))
  refine (rot11 x _).mono ?_
  rintro e w' ⟨rfl, rfl⟩
  go_wp2_with (first | (go_at_call 127; go_in))
  refine (rot25 x _).mono ?_
  rintro e w' ⟨rfl, rfl⟩
  go_wp2_with fail
  go_ret
  exact ⟨ret_int (by rfl), rfl⟩
theorem bs0_any (x : Int) (w : World) :
    Calls Tryd.prog 113 #[.int .u32 x] w fun e w' => e = .returned (.int .u32 (bs0 x)) ∧ w' = w := by
  go_enter Tryd.func113, Tryd.ntmps113
  go_wp2_with (first | (go_at_call 127; go_in))
  refine (rot2 x _).mono ?_
  rintro e w' ⟨rfl, rfl⟩
  go_wp2_with (first | (go_at_call 127; go_in))
  refine (rot13 x _).mono ?_
  rintro e w' ⟨rfl, rfl⟩
  go_wp2_with (first | (go_at_call 127; go_in))
  refine (rot22 x _).mono ?_
  rintro e w' ⟨rfl, rfl⟩
  go_wp2_with fail
  go_ret
  exact ⟨ret_int (by rfl), rfl⟩
theorem ss1_any (x : Int) (w : World) :
    Calls Tryd.prog 125 #[.int .u32 x] w fun e w' => e = .returned (.int .u32 (ss1 x)) ∧ w' = w := by
  go_enter Tryd.func125, Tryd.ntmps125
  go_wp2_with (first | (go_at_call 127; go_in))
  refine (rot17 x _).mono ?_
  rintro e w' ⟨rfl, rfl⟩
  go_wp2_with (first | (go_at_call 127; go_in))
  refine (rot19 x _).mono ?_
  rintro e w' ⟨rfl, rfl⟩
  go_wp2_with fail
  go_ret
  exact ⟨ret_int (by rfl), rfl⟩
theorem ss0_any (x : Int) (w : World) :
    Calls Tryd.prog 126 #[.int .u32 x] w fun e w' => e = .returned (.int .u32 (ss0 x)) ∧ w' = w := by
  go_enter Tryd.func126, Tryd.ntmps126
  go_wp2_with (first | (go_at_call 127; go_in))
  refine (rot7 x _).mono ?_
  rintro e w' ⟨rfl, rfl⟩
  go_wp2_with (first | (go_at_call 127; go_in))
  refine (rot18 x _).mono ?_
  rintro e w' ⟨rfl, rfl⟩
  go_wp2_with fail
  go_ret
  exact ⟨ret_int (by rfl), rfl⟩
theorem chs_any (x y z : Int) (w : World) :
    Calls Tryd.prog 112 #[.int .u32 x, .int .u32 y, .int .u32 z] w fun e w' => e = .returned (.int .u32 (chs x y z)) ∧ w' = w := by
  have hm := u32_max
  go_enter Tryd.func112, Tryd.ntmps112
  go_wp2
  go_ret
  exact ⟨ret_int (by rfl), rfl⟩
theorem maj_any (x y z : Int) (w : World) :
    Calls Tryd.prog 114 #[.int .u32 x, .int .u32 y, .int .u32 z] w fun e w' => e = .returned (.int .u32 (maj x y z)) ∧ w' = w := by
  have hm := u32_max
  go_enter Tryd.func114, Tryd.ntmps114
  go_wp2
  go_ret
  exact ⟨ret_int (by rfl), rfl⟩
end Go.Proofs.YtcmjlhcpoajbkaaDoor
