import Derived.Test.YtcmjlhcpoajbkaaDoorRef
namespace Go.Proofs.YtcmjlhcpoajbkaaDoor
set_option maxRecDepth 10000
open Go.RowKit
def padz (n : Nat) : Nat := (119 - n % 64) % 64
/-- The text, a bit, z noughts. -/
def padA (l : List UInt8) (z : Nat) : List UInt8 := l ++ 128 :: List.replicate z 0
def lenB (n j : Nat) : UInt8 := UInt8.ofNat (n * 8 / 2 ^ (56 - 8 * j) % 256)
def lenU (n i : Nat) : List UInt8 := (List.range i).map (lenB n)
def padB (l : List UInt8) (i : Nat) : List UInt8 := padA l (padz l.length) ++ lenU l.length i
theorem padA_len (l : List UInt8) (z : Nat) : (padA l z).length = l.length + 1 + z := by simp [padA]; omega
theorem padA_step (l : List UInt8) (z : Nat) : padA l z ++ [0] = padA l (z + 1) := by
  simp [padA, List.replicate_succ']
theorem lenU_step (n i : Nat) : lenU n (i + 1) = lenU n i ++ [lenB n i] := by simp [lenU, List.range_succ]
theorem padB_step (l : List UInt8) (i : Nat) : padB l (i + 1) = padB l i ++ [lenB l.length i] := by
  simp [padB, lenU_step]
theorem padB_len (l : List UInt8) (i : Nat) : (padB l i).length = l.length + 1 + padz l.length + i := by
  simp [padB, padA_len, lenU]
theorem conv_one (b : Int) (c : UInt8) (w : World) (h : UInt8.ofNat b.toNat = c) :
    (convert 22 9 (.slice (some ⟨w.heap.size, 0, none⟩) 1 1)).run Tryd.prog (w.alloc (.cells #[.int .u8 b] 5)) = .ok (.string ⟨#[c]⟩) (w.alloc (.cells #[.int .u8 b] 5)) := by
  have := conv_row [b] (w.alloc (.cells #[.int .u8 b] 5)) w.heap.size 1 1 5 (0, 0) rfl (heapN w _ _ rfl)
  rw [this, ← h]; rfl
set_option maxHeartbeats 400000 in
theorem padded_any (l : List UInt8) (w : World) (hl : l.length ≤ 140737488355500) :
    Calls Tryd.prog 57 #[.string ⟨l.toArray⟩] w fun e w' => e = .returned (.string ⟨(padB l 8).toArray⟩) ∧ Below w.heap.size w w' := by
  have hpz : padz l.length < 64 := Nat.mod_lt _ (by omega)
  go_enter Tryd.func57, Tryd.ntmps57
  go_wp2_with fail
  go_loop [4] (fun v => ∃ (z : Nat) (t : ByteArray), z ≤ padz l.length ∧ v = .string t ∧ t = ⟨(padA l z).toArray⟩) (fun v => match v with | .string t => l.length + 65 - t.size | _ => 0)
  case atStart => exact ⟨0, _, Nat.zero_le _, rfl, rfl⟩
  case round =>
    obtain ⟨z, t, hz, rfl, ht⟩ := hrel
    have hsz : t.size = l.length + 1 + z := by rw [ht]; exact padA_len l z
    have Ht : Hid (t = ⟨(padA l z).toArray⟩) := ht
    have Hsz : Hid (t.size = l.length + 1 + z) := hsz
    have hm : t.size ≤ 140737488355600 := by omega
    clear ht hsz
    by_cases hlt : z < padz l.length
    · have hne : ((t.size : Int) % 64 != 56) = true := by
        rw [bne_iff_ne, Hsz.out]; unfold padz at hlt; omega
      go_wp2_with fail
      refine ⟨⟨z + 1, _, by omega, rfl, ?_⟩, ?_⟩
      · rw [Ht.out, ← padA_step]; exact ByteArray.mk_append_mk (padA l z) [0]
      · show l.length + 65 - (t ++ ⟨#[0]⟩).size < l.length + 65 - t.size
        have e : (t ++ ByteArray.mk #[0]).size = t.size + 1 := by rw [ByteArray.size_append]; rfl
        have := Hsz.out
        omega
    · have hz' : z = padz l.length := by omega
      have hne : ((t.size : Int) % 64 != 56) = false := by
        rw [bne_eq_false_iff_eq, Hsz.out, hz']; unfold padz; omega
      have Ht2 : Hid (t = ⟨(padB l 0).toArray⟩) := by
        have := Ht.out
        rw [hz'] at this
        rw [this]; simp [padB, lenU, Hid]
      clear hz' hz hlt Ht
      go_wp2_with fail
      clear hne
      go_loopw [4, 5] (fun v k wr => ∃ (j : Nat) (t : ByteArray), j ≤ 8 ∧ k = .int .i64 (56 - 8 * (j : Int)) ∧ v = .string t ∧ t = ⟨(padB l j).toArray⟩ ∧ Below w.heap.size w wr) (fun _ k _ => (64 + intOf k).toNat)
      case atStart => exact ⟨0, _, by omega, rfl, rfl, Ht2.out, Below.refl _ _⟩
      case round =>
        clear Ht2 Hsz hm
        obtain ⟨j, t, hj, rfl, rfl, ht, hbel⟩ := hrel
        have hsz : t.size ≤ 140737488355700 := by
          have e : t.size = (padB l j).length := by rw [ht]; rfl
          rw [e, padB_len]; omega
        have Ht : Hid (t = _) := ht
        clear ht
        by_cases hlt : j < 8
        · have hge : (0 : Int) ≤ 56 - 8 * (j : Int) := by omega
          have hcv := conv_one ((l.length : Int) * 8 / 2 ^ (56 - 8 * j) % 256) (lenB l.length j) wr (by
            have e : ((l.length : Int) * 8 / 2 ^ (56 - 8 * j) % 256) = ((l.length * 8 / 2 ^ (56 - 8 * j) % 256 : Nat) : Int) := by
              simp only [Int.natCast_emod, Int.natCast_ediv, Int.natCast_mul, Int.natCast_pow]; rfl
            rw [e, Int.toNat_natCast]; rfl)
          have HC : Hid _ := hcv
          go_wp2_with fail
          go_roundw
          case rel =>
            refine ⟨j + 1, _, by omega, by go_num, rfl, ?_, hbel.alloc hbel.size _⟩
            rw [Ht.out, padB_step]; exact ByteArray.mk_append_mk (padB l j) [lenB l.length j]
          case measure => simp [intOf]; omega
        · have hge : 56 < 8 * (j : Int) := by omega
          go_wp2_with fail
          go_ret
          have e : j = 8 := by omega
          have ht := Ht.out
          rw [e] at ht
          refine ⟨?_, hbel⟩
          exact congrArg (fun x => Ending.returned (Value.string x)) ht
end Go.Proofs.YtcmjlhcpoajbkaaDoor
