import Derived.Test.YtcmjlhcpoajbkaaDoorQTag2
namespace Go.Proofs.YtcmjlhcpoajbkaaDoor
set_option maxRecDepth 10000
open Go.RowKit
/-- A text's bytes as numbers. -/
def toI (l : List UInt8) : List Int := l.map fun b => (b.toNat : Int)
theorem toI_len (l : List UInt8) : (toI l).length = l.length := by simp [toI]
theorem toI_bytes (l : List UInt8) : Bytes (toI l) := .of fun x hx => by
  simp only [toI, List.mem_map] at hx
  obtain ⟨b, _, rfl⟩ := hx
  have := b.toNat_lt
  omega
theorem toI_get (l : List UInt8) (i : Nat) (h : i < l.length) : (toI l).getD i 0 = ((l[i]).toNat : Int) := by
  simp [toI, h]
/-- The constants. -/
def KS : List Int := [1116352408, 1899447441, 3049323471, 3921009573, 961987163, 1508970993, 2453635748, 2870763221, 3624381080, 310598401, 607225278, 1426881987, 1925078388, 2162078206, 2614888103, 3248222580, 3835390401, 4022224774, 264347078, 604807628, 770255983, 1249150122, 1555081692, 1996064986, 2554220882, 2821834349, 2952996808, 3210313671, 3336571891, 3584528711, 113926993, 338241895, 666307205, 773529912, 1294757372, 1396182291, 1695183700, 1986661051, 2177026350, 2456956037, 2730485921, 2820302411, 3259730800, 3345764771, 3516065817, 3600352804, 4094571909, 275423344, 430227734, 506948616, 659060556, 883997877, 958139571, 1322822218, 1537002063, 1747873779, 1955562222, 2024104815, 2227730452, 2361852424, 2428436474, 2756734187, 3204031479, 3329325298]
def HS : List Int := [1779033703, 3144134277, 1013904242, 2773480762, 1359893119, 2600822924, 528734635, 1541459225]
/-- Numbers as a text's bytes. -/
def toU (l : List Int) : List UInt8 := l.map fun n => UInt8.ofNat n.toNat
theorem toU_len (l : List Int) : (toU l).length = l.length := by simp [toU]
theorem toI_toU (l : List Int) (h : Bytes l) : toI (toU l) = l := by
  simp only [toI, toU, List.map_map]
  conv => rhs; rw [← List.map_id l]
  apply List.map_congr_left
  intro x hx
  have := h.mem x hx
  simp only [Function.comp, UInt8.toNat_ofNat', id]
  omega
theorem toI_append (a b : List UInt8) : toI (a ++ b) = toI a ++ toI b := by simp [toI]
theorem byte_at (l : List UInt8) (i : Nat) (_h : i < l.length) (h' : i < (ByteArray.mk l.toArray).size) : ((ByteArray.mk l.toArray)[i]'h').toNat = (l[i]).toNat := rfl
set_option maxHeartbeats 400000 in
theorem word_any (l : List UInt8) (at_ : Nat) (w : World) (h : at_ + 4 ≤ l.length) (hl : l.length ≤ 140737488356000) :
    Calls Tryd.prog 58 #[.string ⟨l.toArray⟩, .int .i64 at_] w fun e w' => e = .returned (.int .u32 (wacc (fun j => (toI l).getD (at_ + j) 0) 4)) ∧ w' = w := by
  go_enter Tryd.func58, Tryd.ntmps58
  go_wp2_with fail
  go_loop [5, 6] (fun v i => ∃ k : Nat, k ≤ 4 ∧ i = .int .i64 k ∧ v = .int .u32 (wacc (fun j => (toI l).getD (at_ + j) 0) k)) (fun _ i => 4 - (intOf i).toNat)
  case atStart => exact ⟨0, by omega, rfl, rfl⟩
  case round =>
    obtain ⟨k, hk, rfl, rfl⟩ := hrel
    by_cases hlt : k < 4
    · have HS : Hid (wacc (fun j => (toI l).getD (at_ + j) 0) (k + 1) = bits .or .u32 (wacc (fun j => (toI l).getD (at_ + j) 0) k * 256 % 4294967296) ((toI l).getD (at_ + k) 0)) := rfl
      have hb := toI_get l (at_ + k) (by omega)
      have HB : Hid _ := hb
      have hlt2 : at_ + k < l.length := by omega
      clear hb
      generalize wacc (fun j => (toI l).getD (at_ + j) 0) k = y at *
      go_wp2_with fail
      go_round
      case rel =>
        refine ⟨k + 1, by omega, by go_num, ?_⟩
        rw [HS.out, HB.out]
        have hb := byte_at l (at_ + k) hlt2 (by assumption)
        have := (l[at_ + k]).toNat_lt
        have e1 : ((l[at_ + k]).toNat : Int) % 4294967296 = ((l[at_ + k]).toNat : Int) := Int.emod_eq_of_lt (by omega) (by omega)
        rw [hb, e1]
      case measure => simp [intOf]; omega
    · go_wp2_with fail
      go_ret
      have e : k = 4 := by omega
      exact ⟨ret_int (by rw [e]), rfl⟩
theorem conv_row (D : List Int) (w : World) (g n cap : Nat) (t : TypeId) (fr : Nat × Nat) (hn : D.length = n) (h : w.heap[g]? = some (.cells (A8 D) t fr)) :
    (convert 22 9 (.slice (some ⟨g, 0, none⟩) n cap)).run Tryd.prog w = .ok (.string ⟨(toU D).toArray⟩) w :=
  run_convert_bytes_arg (P := Tryd.prog) (w := w) 22 5 Tryd.underlying22 Tryd.underlying5 g 0 n cap D hn (fun j hj => by
    rw [cell_of_row _ _ _ _ _ _ h, Nat.zero_add, A8_get _ _ (by omega)]) 9 Tryd.underlying9
set_option maxHeartbeats 400000 in
theorem text_any (D : List Int) (w : World) (hD : D.length = 32) :
    Calls Tryd.prog 60 #[.agg (A8 D)] w fun e w' => e = .returned (.string ⟨(toU D).toArray⟩) ∧ Below w.heap.size w w' := by
  have hc := conv_row D (w.alloc (.cells (A8 D) 25)) w.heap.size 32 32 25 (0, 0) hD (heapN w _ _ rfl)
  go_enter Tryd.func60, Tryd.ntmps60
  go_wp2_with fail
  go_ret
  exact ⟨rfl, (Below.refl _ _).alloc (Nat.le_refl _) _⟩
theorem keys_any (w : World) :
    Calls Tryd.prog 56 #[] w fun e w' => e = .returned (.slice (some ⟨w.heap.size, 0, none⟩) 64 64) ∧ w' = w.alloc (.cells (A32 KS) 98) := by
  go_enter Tryd.func56, Tryd.ntmps56
  go_wp2_with fail
  go_ret
  exact ⟨rfl, rfl⟩
end Go.Proofs.YtcmjlhcpoajbkaaDoor
namespace Go.Proofs.YtcmjlhcpoajbkaaDoor
set_option maxRecDepth 10000
open Go.RowKit
def padz (n : Nat) : Nat := (119 - n % 64) % 64
/-- The text, a bit, z noughts. -/
def padA (l : List UInt8) (z : Nat) : List UInt8 := l ++ 128 :: List.replicate z 0
def lenB (n j : Nat) : UInt8 := UInt8.ofNat (n * 8 / 2 ^ (56 - 8 * j) % 256)
def lenU (n i : Nat) : List UInt8 := (List.range i).map (lenB n)
def padB (l : List UInt8) (i : Nat) : List UInt8 := padA l (padz l.length) ++ lenU l.length i
theorem padA_len (l : List UInt8) (z : Nat) : (padA l z).length = l.length + 1 + z := by simp [padA]; omega
theorem padA_step (l : List UInt8) (z : Nat) : padA l z ++ [0] = padA l (z + 1) := by
  simp [padA, List.replicate_succ']
theorem lenU_step (n i : Nat) : lenU n (i + 1) = lenU n i ++ [lenB n i] := by simp [lenU, List.range_succ]
theorem padB_step (l : List UInt8) (i : Nat) : padB l (i + 1) = padB l i ++ [lenB l.length i] := by
  simp [padB, lenU_step]
theorem padB_len (l : List UInt8) (i : Nat) : (padB l i).length = l.length + 1 + padz l.length + i := by
  simp [padB, padA_len, lenU]
theorem conv_one (b : Int) (c : UInt8) (w : World) (h : UInt8.ofNat b.toNat = c) :
    (convert 22 9 (.slice (some ⟨w.heap.size, 0, none⟩) 1 1)).run Tryd.prog (w.alloc (.cells #[.int .u8 b] 5)) = .ok (.string ⟨#[c]⟩) (w.alloc (.cells #[.int .u8 b] 5)) := by
  have := conv_row [b] (w.alloc (.cells #[.int .u8 b] 5)) w.heap.size 1 1 5 (0, 0) rfl (heapN w _ _ rfl)
  rw [this, ← h]; rfl
set_option maxHeartbeats 400000 in
theorem padded_any (l : List UInt8) (w : World) (hl : l.length ≤ 140737488355500) :
    Calls Tryd.prog 57 #[.string ⟨l.toArray⟩] w fun e w' => e = .returned (.string ⟨(padB l 8).toArray⟩) ∧ Below w.heap.size w w' := by
  have hpz : padz l.length < 64 := Nat.mod_lt _ (by omega)
  go_enter Tryd.func57, Tryd.ntmps57
  go_wp2_with fail
  go_loop [4] (fun v => ∃ (z : Nat) (t : ByteArray), z ≤ padz l.length ∧ v = .string t ∧ t = ⟨(padA l z).toArray⟩) (fun v => match v with | .string t => l.length + 65 - t.size | _ => 0)
  case atStart => exact ⟨0, _, Nat.zero_le _, rfl, rfl⟩
  case round =>
    obtain ⟨z, t, hz, rfl, ht⟩ := hrel
    have hsz : t.size = l.length + 1 + z := by rw [ht]; exact padA_len l z
    have Ht : Hid (t = ⟨(padA l z).toArray⟩) := ht
    have Hsz : Hid (t.size = l.length + 1 + z) := hsz
    have hm : t.size ≤ 140737488355600 := by omega
    clear ht hsz
    by_cases hlt : z < padz l.length
    · have hne : ((t.size : Int) % 64 != 56) = true := by
        rw [bne_iff_ne, Hsz.out]; unfold padz at hlt; omega
      go_wp2_with fail
      refine ⟨⟨z + 1, _, by omega, rfl, ?_⟩, ?_⟩
      · rw [Ht.out, ← padA_step]; exact ByteArray.mk_append_mk (padA l z) [0]
      · show l.length + 65 - (t ++ ⟨#[0]⟩).size < l.length + 65 - t.size
        have e : (t ++ ByteArray.mk #[0]).size = t.size + 1 := by rw [ByteArray.size_append]; rfl
        have := Hsz.out
        omega
    · have hz' : z = padz l.length := by omega
      have hne : ((t.size : Int) % 64 != 56) = false := by
        rw [bne_eq_false_iff_eq, Hsz.out, hz']; unfold padz; omega
      have Ht2 : Hid (t = ⟨(padB l 0).toArray⟩) := by
        have := Ht.out
        rw [hz'] at this
        rw [this]; simp [padB, lenU, Hid]
      clear hz' hz hlt Ht
      go_wp2_with fail
      clear hne
      go_loopw [4, 5] (fun v k wr => ∃ (j : Nat) (t : ByteArray), j ≤ 8 ∧ k = .int .i64 (56 - 8 * (j : Int)) ∧ v = .string t ∧ t = ⟨(padB l j).toArray⟩ ∧ Below w.heap.size w wr) (fun _ k _ => (64 + intOf k).toNat)
      case atStart => exact ⟨0, _, by omega, rfl, rfl, Ht2.out, Below.refl _ _⟩
      case round =>
        clear Ht2 Hsz hm
        obtain ⟨j, t, hj, rfl, rfl, ht, hbel⟩ := hrel
        have hsz : t.size ≤ 140737488355700 := by
          have e : t.size = (padB l j).length := by rw [ht]; rfl
          rw [e, padB_len]; omega
        have Ht : Hid (t = _) := ht
        clear ht
        by_cases hlt : j < 8
        · have hge : (0 : Int) ≤ 56 - 8 * (j : Int) := by omega
          have hcv := conv_one ((l.length : Int) * 8 / 2 ^ (56 - 8 * j) % 256) (lenB l.length j) wr (by
            have e : ((l.length : Int) * 8 / 2 ^ (56 - 8 * j) % 256) = ((l.length * 8 / 2 ^ (56 - 8 * j) % 256 : Nat) : Int) := by
              simp only [Int.natCast_emod, Int.natCast_ediv, Int.natCast_mul, Int.natCast_pow]; rfl
            rw [e, Int.toNat_natCast]; rfl)
          have HC : Hid _ := hcv
          go_wp2_with fail
          go_roundw
          case rel =>
            refine ⟨j + 1, _, by omega, by go_num, rfl, ?_, hbel.alloc hbel.size _⟩
            rw [Ht.out, padB_step]; exact ByteArray.mk_append_mk (padB l j) [lenB l.length j]
          case measure => simp [intOf]; omega
        · have hge : 56 < 8 * (j : Int) := by omega
          go_wp2_with fail
          go_ret
          have e : j = 8 := by omega
          have ht := Ht.out
          rw [e] at ht
          refine ⟨?_, hbel⟩
          exact congrArg (fun x => Ending.returned (Value.string x)) ht
end Go.Proofs.YtcmjlhcpoajbkaaDoor
