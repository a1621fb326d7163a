import Derived.Test.YtcmjlhcpoajbkaaDoorQSv
import Derived.Laws.Bits64b
namespace Go.Proofs.YtcmjlhcpoajbkaaDoor
set_option maxRecDepth 10000
set_option linter.unusedSimpArgs false
open Go.RowKit
/-- A number out of bytes, the highest first. -/
def numN (l : List UInt8) : Nat := l.foldl (fun n b => n * 256 + b.toNat) 0
theorem numN_snoc (l : List UInt8) (b : UInt8) : numN (l ++ [b]) = numN l * 256 + b.toNat := by simp [numN]
theorem fold_lt : ∀ (l : List UInt8) (a : Nat), l.foldl (fun n b => n * 256 + b.toNat) a < (a + 1) * 256 ^ l.length := by
  intro l
  induction l with
  | nil => intro a; simp
  | cons b l ih =>
    intro a
    have h := ih (a * 256 + b.toNat)
    have hb := b.toNat_lt
    rw [List.foldl_cons, List.length_cons, Nat.pow_succ]
    have h2 : (a * 256 + b.toNat + 1) * 256 ^ l.length ≤ ((a + 1) * 256) * 256 ^ l.length := Nat.mul_le_mul_right _ (by omega)
    have h3 : ((a + 1) * 256) * 256 ^ l.length = (a + 1) * (256 ^ l.length * 256) := by rw [Nat.mul_assoc, Nat.mul_comm 256]
    omega
theorem numN_lt (l : List UInt8) (h : l.length ≤ 4) : numN l < 4294967296 := by
  have h1 := fold_lt l 0
  have h2 : 256 ^ l.length ≤ 256 ^ 4 := Nat.pow_le_pow_right (by omega) h
  unfold numN
  omega
theorem wrap_u64 (n : Nat) (h : n < 18446744073709551616) : IntKind.u64.wrap (n : Int) = n := by simp only [IntKind.wrap, IntKind.bits, IntKind.signed]; simp; omega
theorem or_byte (n b : Nat) (hn : n < 4294967296) (h : b < 256) : bits .or .u64 ((n : Int) * 256) (IntKind.u64.wrap (b : Int)) = ((n * 256 + b : Nat) : Int) := by
  have e : n * 256 ||| b = n * 256 + b := by
    have := Nat.shiftLeft_add_eq_or_of_lt (i := 8) (b := b) (by omega) n
    rw [Nat.shiftLeft_eq] at this
    exact this.symm
  have e1 : ((n : Int) * 256) = ((n * 256 : Nat) : Int) := by omega
  rw [e1, wrap_u64 _ (by omega), bits_or_u64_nat _ _ (by omega) (by omega), e]
set_option maxHeartbeats 2000000 in
theorem number_any (l : List UInt8) (hl : l.length ≤ 4) (w : World) :
    Calls Tryd.prog 104 #[.string ⟨l.toArray⟩] w fun e w' => e = .returned (.int .u64 (numN l)) ∧ w' = w := by
  have hsz : (ByteArray.mk l.toArray).size = l.length := by show l.toArray.size = _; simp
  go_enter Tryd.func104, Tryd.ntmps104
  go_wp2_with fail
  go_loop [3, 7] (fun v i => ∃ k : Nat, k ≤ l.length ∧ i = .int .i64 k ∧ v = .int .u64 (numN (l.take k))) (fun _ i => l.length - (intOf i).toNat)
  case atStart => exact ⟨0, by omega, rfl, rfl⟩
  case round =>
    obtain ⟨k, hk, rfl, rfl⟩ := hrel
    by_cases hlt : k < l.length
    · have hlt' : (k : Int) < l.length := by omega
      have hg : l.toArray[k]? = some l[k] := by simp [hlt]
      have hs : l.take (k + 1) = l.take k ++ [l[k]] := List.take_succ_eq_append_getElem hlt
      have hnl := numN_lt (l.take k) (by rw [List.length_take]; omega)
      have HS : Hid (numN (l.take (k + 1)) = numN (l.take k) * 256 + (l[k]).toNat) := by show _ = _; rw [hs, numN_snoc]
      have hbl := (l[k]).toNat_lt
      clear hs
      generalize numN (l.take k) = y at *
      go_wp2_with fail
      go_round
      case rel =>
        refine ⟨k + 1, by omega, by go_num, ?_⟩
        have hb := byte_at l k hlt (by assumption)
        rw [hb, or_byte y _ hnl hbl, HS.out]
      case measure => simp [intOf]; omega
    · go_wp2_with fail
      go_ret
      have e : k = l.length := by omega
      exact ⟨by rw [e, List.take_length]; rfl, rfl⟩
theorem ext_take (f : List UInt8) (k : Nat) : (ByteArray.mk f.toArray).extract 0 k = ⟨(f.take k).toArray⟩ := by
  apply ByteArray.ext
  simp [ByteArray.data_extract]
theorem ext_drop (f : List UInt8) (k n : Nat) (hn : f.length = n) : (ByteArray.mk f.toArray).extract k n = ⟨(f.drop k).toArray⟩ := by
  apply ByteArray.ext
  simp [ByteArray.data_extract, List.extract_eq_take_drop, ← hn]
  rw [List.take_of_length_le (by simp)]
theorem str_front (f : List UInt8) (k : Nat) (hk : k ≤ f.length) (W : World) : (Instr.sliceAt 9 (.string ⟨f.toArray⟩) none (some (.int .i64 (k : Int))) none).run Tryd.prog W = .ok (.string ⟨(f.take k).toArray⟩) W := by
  have hsz : (ByteArray.mk f.toArray).size = f.length := by show f.toArray.size = _; simp
  have h1 : (k : Int) ≤ f.length := by omega
  have h2 : ¬ (k : Int) < 0 := by omega
  have he := ext_take f k
  go_simp
theorem str_back (f : List UInt8) (k : Nat) (hk : k ≤ f.length) (W : World) : (Instr.sliceAt 9 (.string ⟨f.toArray⟩) (some (.int .i64 (k : Int))) none none).run Tryd.prog W = .ok (.string ⟨(f.drop k).toArray⟩) W := by
  have hsz : (ByteArray.mk f.toArray).size = f.length := by show f.toArray.size = _; simp
  have h1 : (k : Int) ≤ f.length := by omega
  have h2 : ¬ (k : Int) < 0 := by omega
  have he := ext_drop f k f.length rfl
  go_simp
end Go.Proofs.YtcmjlhcpoajbkaaDoor
