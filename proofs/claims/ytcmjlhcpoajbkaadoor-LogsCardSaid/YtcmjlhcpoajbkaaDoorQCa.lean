import Derived.Test.YtcmjlhcpoajbkaaDoorQDs
import Derived.Test.YtcmjlhcpoajbkaaDoorQCl
namespace Go.Proofs.YtcmjlhcpoajbkaaDoor
set_option maxRecDepth 10000
open Go.RowKit
theorem isIn_any (i n : Int) (w : World) : Calls Tryd.prog 61 #[.int .i64 i, .int .i64 n] w fun ex w' => ex = .returned (.bool (decide (0 ≤ i) && decide (i < n))) ∧ w' = w := by
  obtain ⟨b, hb⟩ : ∃ b, (decide (0 ≤ i) && decide (i < n)) = b := ⟨_, rfl⟩
  rw [hb]
  by_cases h0 : 0 ≤ i
  · by_cases h1 : i < n
    · have HB : Hid (b = true) := by show b = true; rw [← hb, decide_eq_true h0, decide_eq_true h1]; rfl
      clear hb
      go_enter Tryd.func61, Tryd.ntmps61
      go_wp2_with fail
      go_ret
      exact ⟨by rw [HB.out]; rfl, rfl⟩
    · have HB : Hid (b = false) := by show b = false; rw [← hb, decide_eq_false h1]; simp
      clear hb
      go_enter Tryd.func61, Tryd.ntmps61
      go_wp2_with fail
      go_ret
      exact ⟨by rw [HB.out]; rfl, rfl⟩
  · have HB : Hid (b = false) := by show b = false; rw [← hb, decide_eq_false h0]; rfl
    clear hb
    go_enter Tryd.func61, Tryd.ntmps61
    go_wp2_with fail
    go_ret
    exact ⟨by rw [HB.out]; rfl, rfl⟩
end Go.Proofs.YtcmjlhcpoajbkaaDoor
