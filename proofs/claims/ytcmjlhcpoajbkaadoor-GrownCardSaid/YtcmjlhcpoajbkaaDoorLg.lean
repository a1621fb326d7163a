import Derived.Test.YtcmjlhcpoajbkaaDoorKnot
import Derived.Deep.OwnRows
import Derived.Laws.OwnMore
namespace Go.Proofs.YtcmjlhcpoajbkaaDoor
set_option maxRecDepth 10000
open Go.RowKit
/-- A number's k-th byte from the end. -/
def beI (n : Int) (k : Nat) : Int := n / 2 ^ (8 * k) % 256
/-- A number in so many bytes, the highest first. -/
def longI (n : Int) : Nat → List Int
  | 0 => []
  | k + 1 => beI n k :: longI n k
def longU (n : Int) : Nat → List UInt8
  | 0 => []
  | k + 1 => UInt8.ofNat (beI n k).toNat :: longU n k
theorem beI_range (n : Int) (k : Nat) : 0 ≤ beI n k ∧ beI n k < 256 := by unfold beI; omega
theorem longI_len (n : Int) (k : Nat) : (longI n k).length = k := by
  induction k with
  | zero => rfl
  | succ k ih => simp [longI, ih]
theorem longU_len (n : Int) (k : Nat) : (longU n k).length = k := by
  induction k with
  | zero => rfl
  | succ k ih => simp [longU, ih]
theorem longI_bytes (n : Int) (k : Nat) : Bytes (longI n k) := .of fun x hx => by
  induction k with
  | zero => simp [longI] at hx
  | succ k ih =>
    simp only [longI, List.mem_cons] at hx
    rcases hx with rfl | hx
    · exact beI_range n k
    · exact ih hx
theorem toI_longU (n : Int) (k : Nat) : toI (longU n k) = longI n k := by
  induction k with
  | zero => rfl
  | succ k ih =>
    show _ :: toI (longU n k) = _ :: longI n k
    rw [ih]
    congr 1
    have := beI_range n k
    simp only [UInt8.toNat_ofNat']
    omega
set_option maxHeartbeats 1000000 in
theorem long_any (n : Int) (m : Nat) (w : World) (hm : m ≤ 8) :
    Calls Tryd.prog 65 #[.int .i64 n, .int .i64 m] w fun e w' => e = .returned (.string ⟨(longU n m).toArray⟩) ∧ Below w.heap.size w w' := by
  go_enter Tryd.func65, Tryd.ntmps65
  go_wp2_with fail
  go_loopw [5, 6] (fun v i wr => ∃ k : Nat, k ≤ m ∧ i = .int .i64 k ∧ v = .string ⟨(longU n k).toArray⟩ ∧ Below w.heap.size w wr) (fun _ i _ => m - (intOf i).toNat)
  case atStart => exact ⟨0, by omega, rfl, rfl, Below.refl _ _⟩
  case round =>
    obtain ⟨k, hk, rfl, rfl, hb⟩ := hrel
    by_cases hlt : k < m
    · have hcv := conv_one (n / 2 ^ (8 * k) % 256) (UInt8.ofNat (n / 2 ^ (8 * k) % 256).toNat) wr rfl
      have hsz : (ByteArray.mk (longU n k).toArray).size = k := by show (longU n k).toArray.size = _; simp [longU_len]
      have hap : Hid ((ByteArray.mk #[UInt8.ofNat (n / 2 ^ (8 * k) % 256).toNat]) ++ (ByteArray.mk (longU n k).toArray) = ByteArray.mk (longU n (k + 1)).toArray) := ByteArray.mk_append_mk [_] (longU n k)
      go_wp2_with fail
      go_roundw
      case rel => exact ⟨k + 1, by omega, by go_num, by rw [hap.out], hb.alloc hb.size _⟩
      case measure => simp [intOf]; omega
    · go_wp2_with fail
      go_ret
      have e : k = m := by omega
      subst e
      exact ⟨rfl, hb⟩
/-- The row that highestFirst writes, k bytes from the end on. -/
def hfpart (x : Int) (m k : Nat) : List Int := List.replicate (m - k) 0 ++ longI x k
theorem hfpart_len (x : Int) (m k : Nat) (h : k ≤ m) : (hfpart x m k).length = m := by simp [hfpart, longI_len]; omega
theorem hfpart_step (x : Int) (m k : Nat) (h : k < m) : (hfpart x m k).set (m - 1 - k) (beI x k) = hfpart x m (k + 1) := by
  unfold hfpart
  rw [show m - k = (m - (k + 1)) + 1 by omega, List.replicate_succ', List.append_assoc, List.set_append_right _ _ (by simp; omega)]
  simp only [List.length_replicate]
  rw [show m - 1 - k - (m - (k + 1)) = 0 by omega]
  rfl
theorem made8 (m : Nat) : madeCells #[Value.int .u8 0] m = A8 (List.replicate m 0) := by
  have := toList_madeCells_one (.int .u8 0) m
  apply Array.toList_inj.1
  rw [this]
  simp [A8]
set_option maxHeartbeats 1000000 in
theorem highest_any (x : Int) (m : Nat) (w : World) (hm : m ≤ 8) :
    Calls Tryd.prog 81 #[.int .u64 x, .int .i64 m] w fun e w' => e = .returned (.slice (some ⟨w.heap.size, 0, none⟩) m m) ∧ Below w.heap.size w w' ∧ w'.heap[w.heap.size]? = some (.cells (A8 (longI x m)) 5) := by
  obtain ⟨i5, hi5, hz5, hs5, hy5⟩ := info5'
  have hmk := fun W => run_make_row (P := Tryd.prog) 22 5 i5 (.int .u8 0) Tryd.underlying22 hi5 hz5 hs5 rfl .i64 .i64 m (by rw [hy5]; omega) (by omega) W
  rw [made8] at hmk
  have h0 := heapN w (.cells (A8 (List.replicate m 0)) 5) _ rfl
  have hb0 : Below w.heap.size w (w.alloc (.cells (A8 (List.replicate m 0)) 5)) := (Below.refl _ _).alloc (Nat.le_refl _) _
  go_enter Tryd.func81, Tryd.ntmps81
  go_wp2_with fail
  go_loopw [11] (fun i wr => ∃ k : Nat, k ≤ m ∧ i = .int .i64 k ∧ Below w.heap.size w wr ∧ wr.heap[w.heap.size]? = some (.cells (A8 (hfpart x m k)) 5)) (fun i _ => m - (intOf i).toNat)
  case atStart => exact ⟨0, by omega, rfl, hb0, by simpa [hfpart, longI] using h0⟩
  case round =>
    obtain ⟨k, hk, rfl, hb, hg⟩ := hrel
    clear h0 hb0 hmk
    by_cases hlt : k < m
    · have hf := frozen_of_row wr w.heap.size (m - 1 - k) _ _ hg
      have hcell : ∃ u, wr.cell? ⟨w.heap.size, m - 1 - k, none⟩ = some u := by
        rw [cell_of_row _ _ _ _ _ _ hg, A8_get _ _ (by rw [hfpart_len x m k hk]; omega)]; exact ⟨_, rfl⟩
      obtain ⟨u, hc⟩ := hcell
      have hG := heap_setCell_same wr w.heap.size (m - 1 - k) _ _ (.int .u8 (beI x k)) hg
      rw [A8_set, hfpart_step x m k hlt] at hG
      have HG : Hid _ := hG
      have ei : ((m : Int) - 1 - k) = ((m - 1 - k : Nat) : Int) := by omega
      have HB : Hid (Below w.heap.size w (wr.setCell ⟨w.heap.size, m - 1 - k, none⟩ (.int .u8 (beI x k)))) := hb.setCell (Nat.le_refl _) _
      clear hG hg
      go_wp2_with fail
      go_roundw
      case rel => exact ⟨k + 1, by omega, by go_num, HB.out, HG.out⟩
      case measure => simp [intOf]; omega
    · have e : k = m := by omega
      subst e
      have hG : Hid (wr.heap[w.heap.size]? = some (.cells (A8 (longI x k)) 5)) := by
        rw [show hfpart x k k = longI x k by simp [hfpart]] at hg; exact hg
      clear hg
      go_wp2_with fail
      go_ret
      exact ⟨rfl, hb, hG.out⟩
end Go.Proofs.YtcmjlhcpoajbkaaDoor
