import Derived.Test.YtcmjlhcpoajbkaaDoorTag2
namespace Go.Proofs.YtcmjlhcpoajbkaaDoor
set_option maxRecDepth 10000
open Go.RowKit
/-- A text's bytes as numbers. -/
def toI (l : List UInt8) : List Int := l.map fun b => (b.toNat : Int)
theorem toI_len (l : List UInt8) : (toI l).length = l.length := by simp [toI]
theorem toI_bytes (l : List UInt8) : Bytes (toI l) := .of fun x hx => by
  simp only [toI, List.mem_map] at hx
  obtain ⟨b, _, rfl⟩ := hx
  have := b.toNat_lt
  omega
theorem toI_get (l : List UInt8) (i : Nat) (h : i < l.length) : (toI l).getD i 0 = ((l[i]).toNat : Int) := by
  simp [toI, h]
/-- The constants. -/
def KS : List Int := [1116352408, 1899447441, 3049323471, 3921009573, 961987163, 1508970993, 2453635748, 2870763221, 3624381080, 310598401, 607225278, 1426881987, 1925078388, 2162078206, 2614888103, 3248222580, 3835390401, 4022224774, 264347078, 604807628, 770255983, 1249150122, 1555081692, 1996064986, 2554220882, 2821834349, 2952996808, 3210313671, 3336571891, 3584528711, 113926993, 338241895, 666307205, 773529912, 1294757372, 1396182291, 1695183700, 1986661051, 2177026350, 2456956037, 2730485921, 2820302411, 3259730800, 3345764771, 3516065817, 3600352804, 4094571909, 275423344, 430227734, 506948616, 659060556, 883997877, 958139571, 1322822218, 1537002063, 1747873779, 1955562222, 2024104815, 2227730452, 2361852424, 2428436474, 2756734187, 3204031479, 3329325298]
def HS : List Int := [1779033703, 3144134277, 1013904242, 2773480762, 1359893119, 2600822924, 528734635, 1541459225]
/-- Numbers as a text's bytes. -/
def toU (l : List Int) : List UInt8 := l.map fun n => UInt8.ofNat n.toNat
theorem toU_len (l : List Int) : (toU l).length = l.length := by simp [toU]
theorem toI_toU (l : List Int) (h : Bytes l) : toI (toU l) = l := by
  simp only [toI, toU, List.map_map]
  conv => rhs; rw [← List.map_id l]
  apply List.map_congr_left
  intro x hx
  have := h.mem x hx
  simp only [Function.comp, UInt8.toNat_ofNat', id]
  omega
theorem toI_append (a b : List UInt8) : toI (a ++ b) = toI a ++ toI b := by simp [toI]
theorem byte_at (l : List UInt8) (i : Nat) (_h : i < l.length) (h' : i < (ByteArray.mk l.toArray).size) : ((ByteArray.mk l.toArray)[i]'h').toNat = (l[i]).toNat := rfl
set_option maxHeartbeats 400000 in
theorem word_any (l : List UInt8) (at_ : Nat) (w : World) (h : at_ + 4 ≤ l.length) (hl : l.length ≤ 140737488356000) :
    Calls Tryd.prog 58 #[.string ⟨l.toArray⟩, .int .i64 at_] w fun e w' => e = .returned (.int .u32 (wacc (fun j => (toI l).getD (at_ + j) 0) 4)) ∧ w' = w := by
  go_enter Tryd.func58, Tryd.ntmps58
  go_wp2_with fail
  go_loop [5, 6] (fun v i => ∃ k : Nat, k ≤ 4 ∧ i = .int .i64 k ∧ v = .int .u32 (wacc (fun j => (toI l).getD (at_ + j) 0) k)) (fun _ i => 4 - (intOf i).toNat)
  case atStart => exact ⟨0, by omega, rfl, rfl⟩
  case round =>
    obtain ⟨k, hk, rfl, rfl⟩ := hrel
    by_cases hlt : k < 4
    · have HS : Hid (wacc (fun j => (toI l).getD (at_ + j) 0) (k + 1) = bits .or .u32 (wacc (fun j => (toI l).getD (at_ + j) 0) k * 256 % 4294967296) ((toI l).getD (at_ + k) 0)) := rfl
      have hb := toI_get l (at_ + k) (by omega)
      have HB : Hid _ := hb
      have hlt2 : at_ + k < l.length := by omega
      clear hb
      generalize wacc (fun j => (toI l).getD (at_ + j) 0) k = y at *
      go_wp2_with fail
      go_round
      case rel =>
        refine ⟨k + 1, by omega, by go_num, ?_⟩
        rw [HS.out, HB.out]
        have hb := byte_at l (at_ + k) hlt2 (by assumption)
        have := (l[at_ + k]).toNat_lt
        have e1 : ((l[at_ + k]).toNat : Int) % 4294967296 = ((l[at_ + k]).toNat : Int) := Int.emod_eq_of_lt (by omega) (by omega)
        rw [hb, e1]
      case measure => simp [intOf]; omega
    · go_wp2_with fail
      go_ret
      have e : k = 4 := by omega
      exact ⟨ret_int (by rw [e]), rfl⟩
theorem conv_row (D : List Int) (w : World) (g n cap : Nat) (t : TypeId) (fr : Nat × Nat) (hn : D.length = n) (h : w.heap[g]? = some (.cells (A8 D) t fr)) :
    (convert 22 9 (.slice (some ⟨g, 0, none⟩) n cap)).run Tryd.prog w = .ok (.string ⟨(toU D).toArray⟩) w :=
  run_convert_bytes_arg (P := Tryd.prog) (w := w) 22 5 Tryd.underlying22 Tryd.underlying5 g 0 n cap D hn (fun j hj => by
    rw [cell_of_row _ _ _ _ _ _ h, Nat.zero_add, A8_get _ _ (by omega)]) 9 Tryd.underlying9
set_option maxHeartbeats 400000 in
theorem text_any (D : List Int) (w : World) (hD : D.length = 32) :
    Calls Tryd.prog 60 #[.agg (A8 D)] w fun e w' => e = .returned (.string ⟨(toU D).toArray⟩) ∧ Below w.heap.size w w' := by
  have hc := conv_row D (w.alloc (.cells (A8 D) 25)) w.heap.size 32 32 25 (0, 0) hD (heapN w _ _ rfl)
  go_enter Tryd.func60, Tryd.ntmps60
  go_wp2_with fail
  go_ret
  exact ⟨rfl, (Below.refl _ _).alloc (Nat.le_refl _) _⟩
theorem keys_any (w : World) :
    Calls Tryd.prog 56 #[] w fun e w' => e = .returned (.slice (some ⟨w.heap.size, 0, none⟩) 64 64) ∧ w' = w.alloc (.cells (A32 KS) 98) := by
  go_enter Tryd.func56, Tryd.ntmps56
  go_wp2_with fail
  go_ret
  exact ⟨rfl, rfl⟩
end Go.Proofs.YtcmjlhcpoajbkaaDoor
