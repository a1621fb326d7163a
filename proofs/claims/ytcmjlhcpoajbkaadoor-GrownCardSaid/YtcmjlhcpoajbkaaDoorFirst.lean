import Derived.Test.YtcmjlhcpoajbkaaDoorArr
namespace Go.Proofs.YtcmjlhcpoajbkaaDoor
open Go.RowKit
/-- Where a slice of bytes lies: with no byte, anywhere. -/
def Lies (w : World) (p : Option Addr) (xs : List Int) : Prop :=
  0 < xs.length → ∃ b o, p = some ⟨b, o, none⟩ ∧ b < w.heap.size ∧ ∀ j, j < xs.length → w.cell? ⟨b, o + j, none⟩ = some (.int .u8 (xs.getD j 0))
theorem Lies.below {w w' : World} {p : Option Addr} {xs : List Int} (h : Lies w p xs) (hb : Below w.heap.size w w') : Lies w' p xs := fun h0 => by
  obtain ⟨b, o, rfl, hl, hc⟩ := h h0
  exact ⟨b, o, rfl, Nat.lt_of_lt_of_le hl hb.size, fun j hj => by rw [hb.cell (p := ⟨b, o + j, none⟩) hl]; exact hc j hj⟩
/-- As many bytes as a block holds; noughts behind them. -/
def fblock (xs : List Int) : List Int := xs.take 64 ++ List.replicate (64 - xs.length) 0
theorem fblock_len (xs : List Int) : (fblock xs).length = 64 := by simp [fblock]; omega
theorem addr_add (b o j : Nat) : (⟨b, o, none⟩ : Addr).add j = ⟨b, o + j, none⟩ := by unfold Addr.add; split <;> simp_all
/-- 64 noughts, as cells; the first bytes, as cells. -/
def Z64 : List Value := List.replicate 64 (Value.int .u8 0)
def F64 (xs : List Int) : List Value := (xs.take 64).map (Value.int .u8)
theorem F64_len (xs : List Int) (n : Nat) (h : xs.length = n) : (F64 xs).length = n.min 64 := by
  subst h; simp only [F64, List.length_map, List.length_take]; exact Nat.min_comm _ _
theorem F64_fit (xs : List Int) : 0 + (F64 xs).length ≤ Z64.length := by simp [F64, Z64]; omega
theorem F64_one (xs : List Int) : ∀ v ∈ F64 xs, v.oneCell' = true := by
  intro v hv; simp only [F64, List.mem_map] at hv; obtain ⟨x, _, rfl⟩ := hv; rfl
theorem F64_src {w W : World} {p : Option Addr} {xs : List Int} (h : Lies w p xs) (hb : Below w.heap.size w W) (h0 : 0 < (F64 xs).length) :
    ∃ ad, p = some ad ∧ ∀ j v, (F64 xs)[j]? = some v → W.cell? (ad.add j) = some v := by
  obtain ⟨b, o, rfl, hl, hc⟩ := h (by simp [F64] at h0; omega)
  refine ⟨_, rfl, fun j v hv => ?_⟩
  rw [addr_add, hb.cell (p := ⟨b, o + j, none⟩) hl]
  simp only [F64, List.map_take, List.getElem?_take] at hv
  split at hv
  · rename_i hj
    simp only [List.getElem?_map, Option.map_eq_some_iff] at hv
    obtain ⟨x, hx, rfl⟩ := hv
    have hlt : j < xs.length := by
      rcases Nat.lt_or_ge j xs.length with h | h
      · exact h
      · rw [List.getElem?_eq_none h] at hx; cases hx
    rw [hc j hlt, List.getD_eq_getElem?_getD, hx]; rfl
  · cases hv
theorem splice_fblock (xs : List Int) : (splice Z64 0 (F64 xs)).toArray = A8 (fblock xs) := by
  simp only [Z64, F64, splice, A8, fblock, List.map_append, List.map_replicate, List.take_zero, List.nil_append, List.drop_replicate, List.length_map, List.length_take, Nat.zero_add]
  congr 3
  omega
theorem info5 : (Tryd.prog.info? 5).map (·.size) = some 1 := by kernel_rfl
set_option maxHeartbeats 400000 in
theorem firstBlock_any (p : Option Addr) (n cap : Nat) (xs : List Int) (w : World) (hn : xs.length = n) (hsrc : Lies w p xs) :
    Calls Tryd.prog 108 #[.slice p n cap] w fun e w' => e = .returned (.agg (A8 (fblock xs))) ∧ Below w.heap.size w w' := by
  have Hn : Hid (xs.length = n) := hn
  clear hn
  go_enter Tryd.func108, Tryd.ntmps108
  go_wp2_with (first
    | (refine wpList_copy_splice rfl (.tmp 4) (.tmp 5) 22 22 rfl 5 Tryd.underlying22 info5 _ _ _ _ _ _ rfl rfl (w.heap.size + 1) 0 Z64 146 (heap_alloc2_new _ _ _) (F64 xs) (F64_len _ _ Hn.out)
        (fun h0 => ⟨rfl, F64_src hsrc (((Below.refl _ _).alloc (Nat.le_refl _) _).alloc (by simp) _) h0⟩) (F64_fit xs) (F64_one xs) (w.heap.size + 1) _ (Below.refl _ _) (Nat.le_refl _) (fun w' hg' hb' => ?_)
       have hr := hb'.block w.heap.size (by omega)
       have hB : Below w.heap.size w w' := (((Below.refl _ _).alloc (Nat.le_refl _) _).alloc (by simp) _).trans (hb'.mono (by omega))
       rw [heap_alloc2_old] at hr
       rw [splice_fblock] at hg'
       have HR : Hid _ := hr
       clear hr hb')
    | refine wpList_load_row rfl 146 (.tmp 3) rfl _ rfl 146 _ (0, 0) _ hg'.out und43 rfl (by rw [info43, A8_size, fblock_len]) ?_
    | refine wpList_store_row rfl 146 (.tmp 2) (.tmp 7) rfl _ _ rfl rfl 146 _ HR.out (by rw [info43, A8_size, fblock_len]) (by rw [A8_size, fblock_len]; rfl) (A8_one _) ?_)
  refine bodyPost_ret (v := .agg (A8 (fblock xs))) (results_cell_row rfl _ _ w.heap.size 146 _ (0, 0) _ rfl (setRow_heap _ _ _ _ _ _ HR.out) und43 rfl (by rw [info43, A8_size, fblock_len])) rfl ⟨rfl, ?_⟩
  exact Below.setRow hB (Nat.le_refl _) _
end Go.Proofs.YtcmjlhcpoajbkaaDoor
