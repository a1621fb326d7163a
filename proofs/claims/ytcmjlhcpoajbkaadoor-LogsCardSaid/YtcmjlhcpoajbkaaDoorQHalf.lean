import Derived.Test.YtcmjlhcpoajbkaaDoorQLen
import Derived.Test.YtcmjlhcpoajbkaaDoorQTag
namespace Go.Proofs.YtcmjlhcpoajbkaaDoor
set_option maxRecDepth 10000
open Go.RowKit
theorem wrap_pow (L : Nat) (hL : 2 ^ L ≤ 4611686018427387904) : wrap64 ((2 : Int) ^ L) = ((2 ^ L : Nat) : Int) := by
  have e3 : (2 : Int) ^ L = ((2 ^ L : Nat) : Int) := by norm_cast
  rw [e3]
  generalize 2 ^ L = y at hL
  unfold wrap64
  omega
set_option maxHeartbeats 400000 in
theorem len_any (x : Int) (w : World) (h0 : 0 ≤ x) (h1 : x ≤ 18446744073709551615) :
    Calls Tryd.prog 130 #[.int .u64 x] w fun e w' => e = .returned (.int .i64 (Lib.bitLen x.toNat)) ∧ w' = w := by
  go_enter Tryd.func130, Tryd.ntmps130
  go_wp2_with fail
  refine (len64_any x w h0 h1).mono ?_
  rintro e w' ⟨rfl, rfl⟩
  go_wp2_with fail
  go_ret
  exact ⟨rfl, rfl⟩
/-- The greatest power of two below n. -/
def halfN (n : Nat) : Nat := 2 ^ (Lib.bitLen (n - 1) - 1)
theorem bitLen_pos (x : Nat) (h : 0 < x) (h2 : x < 2 ^ 64) : 1 ≤ Lib.bitLen x := by
  rw [Lib.bitLen_half x (by omega) h2]; omega
theorem bitLen_bounds : ∀ (m x : Nat), x ≤ m → 0 < x → x < 2 ^ 64 → 2 ^ (Lib.bitLen x - 1) ≤ x ∧ x < 2 ^ Lib.bitLen x := by
  intro m
  induction m with
  | zero => intro x h1 h2; omega
  | succ m ih =>
    intro x h1 h2 h3
    rw [Lib.bitLen_half x (by omega) h3]
    by_cases h : x = 1
    · subst h; decide
    · obtain ⟨a, b⟩ := ih (x / 2) (by omega) (by omega) (by omega)
      have hp := bitLen_pos (x / 2) (by omega) (by omega)
      have e1 : 1 + Lib.bitLen (x / 2) - 1 = (Lib.bitLen (x / 2) - 1) + 1 := by omega
      rw [e1, Nat.pow_succ, Nat.add_comm 1, Nat.pow_succ]
      omega
theorem halfN_spec (n : Nat) (h : 2 ≤ n) (h2 : n ≤ 2 ^ 64) : halfN n < n ∧ n ≤ 2 * halfN n ∧ 1 ≤ halfN n := by
  obtain ⟨a, b⟩ := bitLen_bounds (n - 1) (n - 1) (Nat.le_refl _) (by omega) (by omega)
  have hp := bitLen_pos (n - 1) (by omega) (by omega)
  have e1 : Lib.bitLen (n - 1) = (Lib.bitLen (n - 1) - 1) + 1 := by omega
  rw [e1, Nat.pow_succ] at b
  have hq : 0 < 2 ^ (Lib.bitLen (n - 1) - 1) := Nat.pow_pos (by omega)
  unfold halfN
  omega
theorem pow_unique (a b n : Nat) (h1 : 2 ^ a < n) (h2 : n ≤ 2 * 2 ^ a) (h3 : 2 ^ b < n) (h4 : n ≤ 2 * 2 ^ b) : 2 ^ a = 2 ^ b := by
  rcases Nat.lt_trichotomy a b with h | h | h
  · have := Nat.pow_le_pow_right (show 0 < 2 by omega) (show a + 1 ≤ b by omega)
    rw [Nat.pow_succ] at this; omega
  · rw [h]
  · have := Nat.pow_le_pow_right (show 0 < 2 by omega) (show b + 1 ≤ a by omega)
    rw [Nat.pow_succ] at this; omega
theorem halfN_of (n k j : Nat) (hk : k = 2 ^ j) (h1 : k < n) (h2 : n ≤ 2 * k) (h3 : n ≤ 2 ^ 64) : k = halfN n := by
  have hn : 2 ≤ n := by
    have : 0 < 2 ^ j := Nat.pow_pos (by omega)
    omega
  obtain ⟨a, b, _⟩ := halfN_spec n hn h3
  subst hk
  unfold halfN at *
  exact pow_unique _ _ n h1 h2 a b
set_option maxHeartbeats 400000 in
theorem powerBelow_any (n : Nat) (w : World) (h1 : 2 ≤ n) (h2 : n ≤ 9223372036854775807) :
    Calls Tryd.prog 120 #[.int .i64 n] w fun e w' => e = .returned (.int .i64 (halfN n)) ∧ w' = w := by
  have e1 : ((n : Int) - 1).toNat = n - 1 := by omega
  have hp := bitLen_pos (n - 1) (by omega) (by omega)
  obtain ⟨hlo, hhi⟩ := bitLen_bounds (n - 1) (n - 1) (Nat.le_refl _) (by omega) (by omega)
  have hb : Lib.bitLen (n - 1) ≤ 63 := by
    rcases Nat.lt_or_ge 63 (Lib.bitLen (n - 1)) with h | h
    · have := Nat.pow_le_pow_right (show 0 < 2 by omega) (show 63 ≤ Lib.bitLen (n - 1) - 1 by omega)
      omega
    · exact h
  have H : Hid (halfN n = 2 ^ (Lib.bitLen (n - 1) - 1)) := rfl
  go_enter Tryd.func120, Tryd.ntmps120
  go_wp2_with fail
  refine (len_any _ w (by omega) (by omega)).mono ?_
  rintro e w' ⟨rfl, rfl⟩
  rw [e1]
  have hL : 2 ^ (Lib.bitLen (n - 1) - 1) ≤ 4611686018427387904 := Nat.pow_le_pow_right (show 0 < 2 by omega) (show Lib.bitLen (n - 1) - 1 ≤ 62 by omega)
  clear hlo hhi e1
  generalize Lib.bitLen (n - 1) = L at *
  go_wp2_with fail
  go_ret
  exact ⟨ret_int (by rw [H.out]; exact wrap_pow _ hL), rfl⟩
set_option maxHeartbeats 400000 in
theorem half_any (n : Nat) (w : World) (h1 : 2 ≤ n) (h2 : n ≤ 9223372036854775807) :
    Calls Tryd.prog 95 #[.int .i64 n] w fun e w' => e = .returned (.int .i64 (halfN n)) ∧ w' = w := by
  go_enter Tryd.func95, Tryd.ntmps95
  go_wp2_with fail
  go_loop [3] (fun v => ∃ (j k : Nat), k = 2 ^ j ∧ k < n ∧ v = .int .i64 k) (fun v => n - (intOf v).toNat)
  case atStart => exact ⟨0, 1, rfl, by omega, rfl⟩
  case round =>
    obtain ⟨j, k, hk, hlt, rfl⟩ := hrel
    have Hk : Hid (k = 2 ^ j) := hk
    have hk1 : 1 ≤ k := by rw [hk]; exact Nat.pow_pos (by omega)
    clear hk
    have e : ((n : Int) - k + 9223372036854775808) % 18446744073709551616 - 9223372036854775808 = ((n - k : Nat) : Int) := by omega
    by_cases h : k < n - k
    · have h' : (k : Int) < ((n - k : Nat) : Int) := by omega
      go_wp2_with fail
      go_round
      case rel =>
        refine ⟨j + 1, 2 * k, ?_, by omega, by go_num⟩
        rw [Nat.pow_succ, Hk.out]; omega
      case measure => simp [intOf]; omega
    · have h' : ¬ (k : Int) < ((n - k : Nat) : Int) := by omega
      go_wp2_with fail
      go_ret
      exact ⟨ret_int (by rw [← halfN_of n k j Hk.out hlt (by omega) (by omega)]), rfl⟩
end Go.Proofs.YtcmjlhcpoajbkaaDoor
