import Derived.Test.YtcmjlhcpoajbkaaDoorChecked
import Derived.ProofKit
import Derived.Lib.BitFns
import Derived.Lib.Small
import Derived.Lib.Walk
namespace Go.Proofs.YtcmjlhcpoajbkaaDoor
open Go.RowKit
theorem len_close (x : Int) (K : Int) (k : Nat) (y : Int) (hK : K = k) (h0 : 0 ≤ x) (h1 : x ≤ 18446744073709551615) (hy : y.toNat = x.toNat / 2 ^ k) (y0 : 0 ≤ y) (y1 : y ≤ 255) (hk : k ≤ 56) (hx : k = 0 ∨ 2 ^ k ≤ x.toNat) :
    (K + ((Lib.len8 y + 9223372036854775808) % 18446744073709551616 - 9223372036854775808) + 9223372036854775808) % 18446744073709551616 - 9223372036854775808 = ((Lib.bitLen x.toNat : Nat) : Int) := by
  have l := Lib.bitLen_le8' y y0 y1
  have s : Lib.bitLen x.toNat = k + Lib.bitLen y.toNat := by
    rcases hx with hx | hx
    · subst hx; rw [hy]; simp
    · rw [hy]; exact Lib.bitLen_shift k _ hx (by omega)
  rw [Lib.len8_of y y0 y1, s]
  omega
set_option maxHeartbeats 4000000 in
set_option maxRecDepth 100000 in
theorem len64_any (x : Int) (w : World) (h0 : 0 ≤ x) (h1 : x ≤ 18446744073709551615) :
    Calls Tryd.prog 134 #[.int .u64 x] w fun e w' => e = .returned (.int .i64 (Lib.bitLen x.toNat)) ∧ w' = w := by
  go_enter Tryd.func134, Tryd.ntmps134
  go_wp2
  all_goals (go_ret; refine ⟨congrArg Ending.returned (congrArg (Value.int IntKind.i64) ?_), rfl⟩)
  · exact len_close x 56 56 _ rfl h0 h1 (by omega) (by omega) (by omega) (by omega) (.inr (by omega))
  · exact len_close x 48 48 _ rfl h0 h1 (by omega) (by omega) (by omega) (by omega) (.inr (by omega))
  · exact len_close x 40 40 _ rfl h0 h1 (by omega) (by omega) (by omega) (by omega) (.inr (by omega))
  · exact len_close x 32 32 _ rfl h0 h1 (by omega) (by omega) (by omega) (by omega) (.inr (by omega))
  · exact len_close x 24 24 _ rfl h0 h1 (by omega) (by omega) (by omega) (by omega) (.inr (by omega))
  · exact len_close x 16 16 _ rfl h0 h1 (by omega) (by omega) (by omega) (by omega) (.inr (by omega))
  · exact len_close x 8 8 _ rfl h0 h1 (by omega) (by omega) (by omega) (by omega) (.inr (by omega))
  · have h := len_close x 0 0 (x % 256) rfl h0 h1 (by omega) (by omega) (by omega) (by omega) (.inl rfl)
    have l := Lib.bitLen_le8' (x % 256) (by omega) (by omega)
    rw [Lib.len8_of (x % 256) (by omega) (by omega)] at h ⊢
    omega
end Go.Proofs.YtcmjlhcpoajbkaaDoor
