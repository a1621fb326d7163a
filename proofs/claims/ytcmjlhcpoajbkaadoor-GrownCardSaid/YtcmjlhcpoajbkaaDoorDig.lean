import Derived.Test.YtcmjlhcpoajbkaaDoorArr
namespace Go.Proofs.YtcmjlhcpoajbkaaDoor
open Go.RowKit
/-- The byte number i of the words. -/
def dbyte (st : List Int) (i : Nat) : Int := st.getD (i / 4) 0 / 2 ^ (8 * (3 - i % 4)) % 256
def dbytes (st : List Int) : List Int := (List.range 32).map (dbyte st)
def dpart (st : List Int) (k : Nat) : List Int := (List.range 32).map fun i => if i < k then dbyte st i else 0
theorem dpart_len (st : List Int) (k : Nat) : (dpart st k).length = 32 := by simp [dpart]
theorem dpart_all (st : List Int) : dpart st 32 = dbytes st := by
  simp only [dpart, dbytes]
  apply List.map_congr_left
  intro i hi
  rw [if_pos (by simpa using hi)]
theorem dpart_zero (st : List Int) : dpart st 0 = List.replicate 32 0 := by simp [dpart, List.map_const']
theorem dpart_step (st : List Int) (k : Nat) (h : k < 32) : (dpart st k).set k (dbyte st k) = dpart st (k + 1) := by
  apply List.ext_getElem?
  intro i
  simp only [dpart, List.getElem?_set, List.length_map, List.length_range, List.getElem?_map]
  by_cases hi : k = i
  · subst hi; simp [h]
  · rw [if_neg hi]
    by_cases h2 : i < 32
    · simp only [List.getElem?_range h2, Option.map_some]
      congr 1
      by_cases h3 : i < k
      · rw [if_pos h3, if_pos (by omega)]
      · rw [if_neg h3, if_neg (by omega)]
    · rw [List.getElem?_eq_none (by simp; omega)]; rfl
set_option maxHeartbeats 400000 in
theorem digest_any (st : List Int) (w : World) (hb : st.length = 8) :
    Calls Tryd.prog 109 #[.agg (A32 st)] w fun e w' => e = .returned (.agg (A8 (dbytes st))) ∧ Below w.heap.size w w' := by
  have Hb : Hid (st.length = 8) := hb
  clear hb
  go_enter Tryd.func109, Tryd.ntmps109
  go_wp2_with fail
  go_loopw [5] (fun i wr => ∃ k : Nat, k ≤ 32 ∧ i = .int .i64 k ∧ wr.heap[w.heap.size]? = some (.cells (A32 st) 143) ∧ (∃ Z, wr.heap[w.heap.size+1]? = some (.cells Z 25) ∧ Z.size = 32) ∧ wr.heap[w.heap.size + 2]? = some (.cells (A8 (dpart st k)) 25) ∧ Below w.heap.size w wr) (fun i _ => 32 - (intOf i).toNat)
  case atStart =>
    refine ⟨0, by omega, rfl, ?_, ⟨(List.replicate 32 (Value.int .u8 0)).toArray, ?_, rfl⟩, ?_, below3 _ _ _ _⟩
    · exact (heap3 _ _ _ _).1
    · exact (heap3 _ _ _ _).2.1
    · rw [dpart_zero]; exact (heap3 _ _ _ _).2.2
  case round =>
    obtain ⟨k, hk, rfl, hg, ⟨Z, hz, hzs⟩, hd, hbel⟩ := hrel
    by_cases hlt : k < 32
    · have hc : wr.cell? ⟨w.heap.size, k / 4, none⟩ = some (.int .u32 (st.getD (k / 4) 0)) := by
        rw [cell_of_row _ _ _ _ _ _ hg, A32_get _ _ (by rw [Hb.out]; omega)]
      have hc2 : wr.cell? ⟨w.heap.size + 2, k, none⟩ = some (.int .u8 ((dpart st k).getD k 0)) := by
        rw [cell_of_row _ _ _ _ _ _ hd, A8_get _ _ (by rw [dpart_len]; omega)]
      have hf := frozen_of_row wr (w.heap.size + 2) k _ _ hd
      have hG := heap_setCell_same wr (w.heap.size + 2) k _ _ (.int .u8 (dbyte st k)) hd
      rw [A8_set, dpart_step _ _ hlt] at hG
      generalize (dpart st k).getD k 0 = y at hc2
      have HG : Hid _ := hG
      have hZ : Hid (wr.heap[w.heap.size + 1]? = some (.cells Z 25)) := hz
      have hg1 : Hid (wr.heap[w.heap.size]? = _) := hg
      have hsh : Hid (dbyte st k = st.getD (k / 4) 0 / 2 ^ (8 * (3 - k % 4)) % 256) := rfl
      generalize st.getD (k / 4) 0 = x at hc hsh
      clear hg hz hG hd
      go_wp2_with fail
      go_roundw
      case rel =>
        refine ⟨k + 1, by omega, by go_num, ?_, ⟨Z, ?_, hzs⟩, ?_, hbel.setCell (by simp; omega) _⟩
        · rw [heap_setCell_other _ _ _ _ (by simp; omega)]; exact hg1.out
        · rw [heap_setCell_other _ _ _ _ (by simp)]; exact hZ.out
        · have := HG.out
          rw [hsh.out] at this
          exact this
      case measure => simp [intOf]; omega
    · have hk' : k = 32 := by omega
      subst hk'
      have hG : Hid _ := hd
      have hZ : Hid (wr.heap[w.heap.size + 1]? = some (.cells Z 25)) := hz
      clear hg hz hd
      go_wp2_with (first
        | refine wpList_load_row rfl 25 (.tmp 3) rfl _ rfl 25 _ (0, 0) _ hG.out und25 rfl (by rw [info25, A8_size, dpart_len]) ?_
        | refine wpList_store_row rfl 25 (.tmp 2) (.tmp 21) rfl _ _ rfl rfl 25 _ hZ.out (by rw [info25, A8_size, dpart_len]) (by rw [hzs, A8_size, dpart_len]) (A8_one _) ?_)
      refine bodyPost_ret (v := .agg (A8 (dpart st 32))) (results_cell_row rfl _ _ (w.heap.size + 1) 25 _ (0, 0) _ rfl (setRow_heap _ _ _ _ _ _ hZ.out) und25 rfl (by rw [info25, A8_size, dpart_len])) rfl ⟨?_, ?_⟩
      · rw [dpart_all]
      · exact Below.setRow hbel (by omega) _
end Go.Proofs.YtcmjlhcpoajbkaaDoor
