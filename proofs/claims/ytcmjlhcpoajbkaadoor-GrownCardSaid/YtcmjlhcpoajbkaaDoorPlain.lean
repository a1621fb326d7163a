import Derived.Test.YtcmjlhcpoajbkaaDoorRows
import Derived.WalkKit
namespace Go.Proofs.YtcmjlhcpoajbkaaDoor
/-- A word turned right by n bits. -/
def rr (n : Nat) (x : Int) : Int := bits .or .u32 (x / 2 ^ n) (x * 2 ^ (32 - n) % 4294967296)
theorem bits_or_comm (x y : Int) : bits .or .u32 x y = bits .or .u32 y x := by
  simp only [bits]; rw [BitVec.or_comm]
theorem u32_wrap (n : Int) : IntKind.u32.wrap n = n % 4294967296 := by
  simp [IntKind.wrap, IntKind.bits, IntKind.signed]
theorem bits_u32_range (op : BinOp) (x y : Int) : 0 ≤ bits op .u32 x y ∧ bits op .u32 x y < 4294967296 := by
  unfold bits
  simp only [u32_wrap]
  omega
theorem rr_range (n : Nat) (x : Int) : 0 ≤ rr n x ∧ rr n x < 4294967296 := bits_u32_range _ _ _
def bs0 (x : Int) : Int := bits .xor .u32 (bits .xor .u32 (rr 2 x) (rr 13 x)) (rr 22 x)
def bs1 (x : Int) : Int := bits .xor .u32 (bits .xor .u32 (rr 6 x) (rr 11 x)) (rr 25 x)
def ss0 (x : Int) : Int := bits .xor .u32 (bits .xor .u32 (rr 7 x) (rr 18 x)) (x / 8)
def ss1 (x : Int) : Int := bits .xor .u32 (bits .xor .u32 (rr 17 x) (rr 19 x)) (x / 1024)
def chs (x y z : Int) : Int := bits .xor .u32 (bits .and .u32 x y) (bits .and .u32 (bits .xor .u32 4294967295 x) z)
def maj (x y z : Int) : Int := bits .xor .u32 (bits .xor .u32 (bits .and .u32 x y) (bits .and .u32 x z)) (bits .and .u32 y z)
theorem bs0_range (x : Int) : 0 ≤ bs0 x ∧ bs0 x < 4294967296 := bits_u32_range _ _ _
theorem bs1_range (x : Int) : 0 ≤ bs1 x ∧ bs1 x < 4294967296 := bits_u32_range _ _ _
theorem ss0_range (x : Int) : 0 ≤ ss0 x ∧ ss0 x < 4294967296 := bits_u32_range _ _ _
theorem ss1_range (x : Int) : 0 ≤ ss1 x ∧ ss1 x < 4294967296 := bits_u32_range _ _ _
theorem chs_range (x y z : Int) : 0 ≤ chs x y z ∧ chs x y z < 4294967296 := bits_u32_range _ _ _
theorem maj_range (x y z : Int) : 0 ≤ maj x y z ∧ maj x y z < 4294967296 := bits_u32_range _ _ _
theorem ret_int {k : IntKind} {a b : Int} (h : a = b) : Ending.returned (.int k a) = .returned (.int k b) := by rw [h]
theorem u32_max : IntKind.u32.max = 4294967295 := by decide
end Go.Proofs.YtcmjlhcpoajbkaaDoor
