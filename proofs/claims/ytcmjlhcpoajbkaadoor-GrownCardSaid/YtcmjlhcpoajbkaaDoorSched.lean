import Derived.Test.YtcmjlhcpoajbkaaDoorWords
import Derived.StillTailTactics
namespace Go.Proofs.YtcmjlhcpoajbkaaDoor
set_option maxRecDepth 10000
open Go.RowKit
theorem i64_wrap (n : Int) (h0 : 0 ≤ n) (h1 : n < 9223372036854775808) : IntKind.i64.wrap n = n := by
  simp only [IntKind.wrap, IntKind.bits, IntKind.signed]
  simp
  omega
theorem i64_sub (j d : Nat) (h : d ≤ j) (h1 : j < 64) : IntKind.i64.wrap ((j : Int) - (d : Int)) = ((j - d : Nat) : Int) := by
  rw [i64_wrap _ (by omega) (by omega)]; omega
theorem slice4 (g k : Nat) (w : World) (h : k < 16) :
    (Instr.sliceAt 146 (.pointer (some ⟨g, 0, none⟩)) (some (.int .i64 (4 * (k : Int)))) (some (.int .i64 (4 * ((k : Int) + 1)))) none).run Tryd.prog w = .ok (.slice (some ⟨g, 4 * k, none⟩) 4 (64 - 4 * k)) w := by
  rw [run_sliceAt_array_lh (P := Tryd.prog) w 146 ⟨g, 0, none⟩ und43 .i64 .i64 _ _ (by omega) (by omega) (by show _ ≤ (64 : Int); omega)]
  have e : Tryd.prog.elem 146 = 5 := by kernel_rfl
  have e2 : Tryd.prog.arrayLen 146 = 64 := by kernel_rfl
  rw [e, e2, Tryd.sizeOf5]
  have h1 : (4 * (k : Int)).toNat = 4 * k := by omega
  have h2 : (4 * ((k : Int) + 1)).toNat = 4 * k + 4 := by omega
  simp only [Result.andThen_ok, slicedAt, h1, h2, if_neg (show ¬ (64 = 4 * k) by omega)]
  have h3 : (⟨g, 0, none⟩ : Addr).add (4 * k * 1) = ⟨g, 4 * k, none⟩ := by unfold Addr.add; split <;> simp_all
  rw [h3, show 4 * k + 4 - 4 * k = 4 by omega]
set_option maxHeartbeats 1000000 in
theorem schedule_any (bs : List Int) (w : World) (hb : bs.length = 64) (hr : ∀ j, 0 ≤ bs.getD j 0 ∧ bs.getD j 0 < 256) :
    Calls Tryd.prog 110 #[.agg (A8 bs)] w fun e w' => e = .returned (.agg (A32 (wlist bs 64))) ∧ Below w.heap.size w w' := by
  have Hb : Hid (bs.length = 64) := hb
  have Hr : Hid (∀ j, 0 ≤ bs.getD j 0 ∧ bs.getD j 0 < 256) := hr
  clear hb hr
  go_enter Tryd.func110, Tryd.ntmps110
  go_wp2_with fail
  go_loopw [8] (fun i wr => ∃ k : Nat, k ≤ 16 ∧ i = .int .i64 k ∧ wr.heap[w.heap.size]? = some (.cells (A8 bs) 146) ∧ (∃ Z, wr.heap[w.heap.size+1]? = some (.cells Z 167) ∧ Z.size = 64) ∧ wr.heap[w.heap.size + 2]? = some (.cells (A32 (wpad bs k)) 167) ∧ Below w.heap.size w wr) (fun i _ => 16 - (intOf i).toNat)
  case atStart =>
    refine ⟨0, by omega, rfl, (heap3 _ _ _ _).1, ⟨(List.replicate 64 (Value.int .u32 0)).toArray, (heap3 _ _ _ _).2.1, rfl⟩, ?_, below3 _ _ _ _⟩
    rw [wpad_zero]; exact (heap3 _ _ _ _).2.2
  case round =>
    obtain ⟨k, hk, rfl, hg, ⟨Z, hz, hzs⟩, hd, hbel⟩ := hrel
    have Hg : Hid (wr.heap[w.heap.size]? = _) := hg
    have Hz : Hid (wr.heap[w.heap.size + 1]? = _) := hz
    have Hd : Hid (wr.heap[w.heap.size + 2]? = _) := hd
    clear hg hz hd
    by_cases hlt : k < 16
    · have hsl := slice4 w.heap.size k wr hlt
      go_wp2_with fail
      go_loopw [18] (fun i wq => ∃ j : Nat, j ≤ 4 ∧ i = .int .i64 j ∧ wq.heap[w.heap.size]? = some (.cells (A8 bs) 146) ∧ wq.heap[w.heap.size+1]? = some (.cells Z 167) ∧ wq.heap[w.heap.size + 2]? = some (.cells (A32 ((wpad bs k).set k (wacc (fun j => bs.getD (4 * k + j) 0) j))) 167) ∧ Below w.heap.size w wq) (fun i _ => 4 - (intOf i).toNat)
      case atStart =>
        refine ⟨0, by omega, rfl, Hg.out, Hz.out, ?_, hbel⟩
        simp only [wacc]
        rw [wpad_same _ _ (by omega)]; exact Hd.out
      case round =>
        clear hsl Hg Hz Hd hbel
        obtain ⟨j, hj, rfl, hg, hz, hd, hbel⟩ := hrel
        have Hz : Hid (wr.heap[w.heap.size + 1]? = _) := hz
        by_cases hj4 : j < 4
        · have hc : wr.cell? ⟨w.heap.size, 4 * k + j, none⟩ = some (.int .u8 (bs.getD (4 * k + j) 0)) := by
            rw [cell_of_row _ _ _ _ _ _ hg, A8_get _ _ (by rw [Hb.out]; omega)]
          have hc2 : wr.cell? ⟨w.heap.size + 2, k, none⟩ = some (.int .u32 (wacc (fun j => bs.getD (4 * k + j) 0) j)) := by
            rw [cell_of_row _ _ _ _ _ _ hd, A32_get _ _ (by rw [List.length_set, wpad_len _ _ (by omega)]; omega), List.getD_eq_getElem?_getD, List.getElem?_set, if_pos rfl, if_pos (by rw [wpad_len _ _ (by omega)]; omega)]
            rfl
          have hf := frozen_of_row wr (w.heap.size + 2) k _ _ hd
          have hG := heap_setCell_same wr (w.heap.size + 2) k _ _ (.int .u32 (wacc (fun j => bs.getD (4 * k + j) 0) (j + 1))) hd
          rw [A32_set, List.set_set] at hG
          have HS : Hid (wacc (fun j => bs.getD (4 * k + j) 0) (j + 1) = bits .or .u32 (wacc (fun j => bs.getD (4 * k + j) 0) j * 256 % 4294967296) (bs.getD (4 * k + j) 0)) := rfl
          obtain ⟨hr1, hr2⟩ := Hr.out (4 * k + j)
          rw [HS.out] at hG
          generalize wacc (fun j => bs.getD (4 * k + j) 0) j = y at hc2 HS hG
          generalize bs.getD (4 * k + j) 0 = x at hc HS hr1 hr2 hG
          have Hg : Hid (wr.heap[w.heap.size]? = _) := hg
          have HG : Hid _ := hG
          clear hg hz hd hG
          go_wp2_with fail
          go_roundw
          case rel =>
            refine ⟨j + 1, by omega, by go_num, ?_, ?_, ?_, hbel.setCell (by simp; omega) _⟩
            · rw [heap_setCell_other _ _ _ _ (by simp; omega)]; exact Hg.out
            · rw [heap_setCell_other _ _ _ _ (by simp)]; exact Hz.out
            · rw [HS.out]; exact HG.out
          case measure => simp [intOf]; omega
        · have hj' : j = 4 := by omega
          subst hj'
          have Hg : Hid (wr.heap[w.heap.size]? = _) := hg
          have Hd : Hid (wr.heap[w.heap.size + 2]? = _) := hd
          clear hg hz hd
          go_wp2_with fail
          go_roundw
          case rel =>
            refine ⟨k + 1, by omega, by go_num, Hg.out, ⟨Z, Hz.out, hzs⟩, ?_, hbel⟩
            have := Hd.out
            rw [← wpad_set _ _ (by omega), wnext_word _ _ hlt]
            exact this
          case measure => simp [intOf]; omega
    · have Hd' : Hid (wr.heap[w.heap.size + 2]? = some (.cells (A32 (wpad bs 16)) 167)) := by
        have e : k = 16 := by omega
        rw [← e]; exact Hd
      clear Hd
      go_wp2_with fail
      go_loopw [7] (fun i wq => ∃ j : Nat, 16 ≤ j ∧ j ≤ 64 ∧ i = .int .i64 j ∧ wq.heap[w.heap.size+1]? = some (.cells Z 167) ∧ wq.heap[w.heap.size + 2]? = some (.cells (A32 (wpad bs j)) 167) ∧ Below w.heap.size w wq) (fun i _ => 64 - (intOf i).toNat)
      case atStart => exact ⟨16, by omega, by omega, rfl, Hz.out, Hd'.out, hbel⟩
      case round =>
        clear Hg Hz Hd' hbel hlt hk
        obtain ⟨j, hj0, hj, rfl, hz, hd, hbel⟩ := hrel
        have Hz : Hid (wr.heap[w.heap.size + 1]? = _) := hz
        by_cases hlt : j < 64
        · have hcell : ∀ i, i < 64 → wr.cell? ⟨w.heap.size + 2, i, none⟩ = some (.int .u32 ((wpad bs j).getD i 0)) := fun i hi => by
            rw [cell_of_row _ _ _ _ _ _ hd, A32_get _ _ (by rw [wpad_len _ _ (by omega)]; omega)]
          have c2 := hcell (j - 2) (by omega)
          have c7 := hcell (j - 7) (by omega)
          have c15 := hcell (j - 15) (by omega)
          have c16 := hcell (j - 16) (by omega)
          have c0 := hcell j (by omega)
          rw [wpad_get _ _ _ (by omega)] at c2 c7 c15 c16
          have hf := frozen_of_row wr (w.heap.size + 2) j _ _ hd
          have hG := heap_setCell_same wr (w.heap.size + 2) j _ _ (.int .u32 (wnext bs (wlist bs j))) hd
          have HS : Hid (wnext bs (wlist bs j) = _) := wnext_grow bs j hj0
          rw [A32_set, wpad_set _ _ hlt, HS.out] at hG
          generalize (wpad bs j).getD j 0 = x0 at c0
          generalize (wlist bs j).getD (j - 2) 0 = x2 at c2 HS hG
          generalize (wlist bs j).getD (j - 7) 0 = x7 at c7 HS hG
          generalize (wlist bs j).getD (j - 15) 0 = x15 at c15 HS hG
          generalize (wlist bs j).getD (j - 16) 0 = x16 at c16 HS hG
          have HG : Hid _ := hG
          clear hz hd hG hcell
          have b0 : (16 : Int) ≤ (j : Int) := by omega
          have b1 : (j : Int) < 64 := by omega
          have b2 : IntKind.i64.wrap ((j : Int) - 2) = ((j - 2 : Nat) : Int) := i64_sub j 2 (by omega) hlt
          have b7 : IntKind.i64.wrap ((j : Int) - 7) = ((j - 7 : Nat) : Int) := i64_sub j 7 (by omega) hlt
          have b15 : IntKind.i64.wrap ((j : Int) - 15) = ((j - 15 : Nat) : Int) := i64_sub j 15 (by omega) hlt
          have b16 : IntKind.i64.wrap ((j : Int) - 16) = ((j - 16 : Nat) : Int) := i64_sub j 16 (by omega) hlt
          have l2 : ((j - 2 : Nat) : Int) < 64 := by omega
          have l7 : ((j - 7 : Nat) : Int) < 64 := by omega
          have l15 : ((j - 15 : Nat) : Int) < 64 := by omega
          have l16 : ((j - 16 : Nat) : Int) < 64 := by omega
          generalize j - 2 = j2 at c2 b2 l2
          generalize j - 7 = j7 at c7 b7 l7
          generalize j - 15 = j15 at c15 b15 l15
          generalize j - 16 = j16 at c16 b16 l16
          go_wp2_with fail
          refine wp_region_still_tail 22 (by kernel_rfl) (by kernel_rfl) ?_
          simp only [List.take_succ_cons, List.take_zero, List.drop_succ_cons, List.drop_zero]
          repeat still_step
          still_call (ss1_any _ _)
          repeat still_step
          still_call (ss0_any _ _)
          repeat still_step
          refine wpStill_nil ?_
          go_wp2_with fail
          go_roundw
          case rel =>
            refine ⟨j + 1, by omega, by omega, by go_num, ?_, ?_, (hbel.setCell (by simp; omega) _).drew⟩
            · rw [heap_drew, heap_setCell_other _ _ _ _ (by simp)]; exact Hz.out
            · rw [heap_drew]; exact HG.out
          case measure => simp [intOf]; omega
        · have hj' : j = 64 := by omega
          subst hj'
          have hG : Hid _ := hd
          clear hd hz
          go_wp2_with (first
            | refine wpList_load_row rfl 167 (.tmp 3) rfl _ rfl 167 _ (0, 0) _ hG.out und49 rfl (by rw [info49, A32_size, wpad_len _ _ (Nat.le_refl _)]) ?_
            | refine wpList_store_row rfl 167 (.tmp 2) (.tmp 60) rfl _ _ rfl rfl 167 _ Hz.out (by rw [info49, A32_size, wpad_len _ _ (Nat.le_refl _)]) (by rw [hzs, A32_size, wpad_len _ _ (Nat.le_refl _)]) (A32_one _) ?_)
          refine bodyPost_ret (v := .agg (A32 (wpad bs 64))) (results_cell_row rfl _ _ (w.heap.size + 1) 167 _ (0, 0) _ rfl (setRow_heap _ _ _ _ _ _ Hz.out) und49 rfl (by rw [info49, A32_size, wpad_len _ _ (Nat.le_refl _)])) rfl ⟨?_, ?_⟩
          · rw [wpad_full]
          · exact Below.setRow hbel (by omega) _
end Go.Proofs.YtcmjlhcpoajbkaaDoor
