import Derived.Test.YtcmjlhcpoajbkaaDoorLg
import Derived.Test.YtcmjlhcpoajbkaaDoorTr
import Derived.Test.YtcmjlhcpoajbkaaDoorRl
import Derived.Test.YtcmjlhcpoajbkaaDoorDs
namespace Go.Proofs.YtcmjlhcpoajbkaaDoor
set_option maxRecDepth 10000
set_option linter.unusedSimpArgs false
open Go.RowKit
/-- The tag of a head. -/
def signP (key : List Int) (n : Int) (R : List Int) : List Int := tagP KS HS key (longI n 8 ++ R)
theorem signP_len (key : List Int) (n : Int) (R : List Int) : (signP key n R).length = 32 := tagP_len _ _ _ _
theorem signP_bytes (key : List Int) (n : Int) (R : List Int) : Bytes (signP key n R) := finP_bytes _ _ _ _
theorem in8_blk {w : World} {g : Nat} {t : TypeId} {fr : Nat × Nat} {xs : List Int} {n : Nat} (hn : xs.length = n) (hb : Bytes xs) (hs : n ≤ 1000) (h : w.heap[g]? = some (.cells (A8 xs) t fr)) : In8 w (some ⟨g, 0, none⟩) n n xs :=
  ⟨hn, hb, Nat.le_refl _, by omega, by omega, fun _ => ⟨g, 0, rfl, row_lt h, fun j hj => by rw [cell_of_row _ _ _ _ _ _ h, Nat.zero_add, A8_get _ _ hj]⟩⟩
set_option maxHeartbeats 2000000 in
theorem headTag_any (w : World) (hT : Tabs KS HS w) (p : Option Addr) (m c : Nat) (key : List Int) (hi : In8 w p m c key) (n : Int) (h1 : 0 ≤ n) (h2 : n ≤ 9223372036854775807) (R : List Int) (hl : R.length = 32) (hb : Bytes R) :
    Calls Tryd.prog 66 #[.slice p m c, .int .i64 n, .agg (A8 R)] w fun e w' => e = .returned (.agg (A8 (signP key n R))) ∧ Below w.heap.size w w' := by
  have hb0 := below2 w (.cells (A8 R) 25) (.cells Z8x32 25)
  have V0 := heap2 w (.cells (A8 R) 25) (.cells Z8x32 25)
  obtain ⟨V, hV⟩ : ∃ V, V = (w.alloc (.cells (A8 R) 25)).alloc (.cells Z8x32 25) := ⟨_, rfl⟩
  rw [← hV] at hb0 V0
  have hu : IntKind.u64.wrap n = n := by simp only [IntKind.wrap, IntKind.bits, IntKind.signed]; simp; omega
  have l0 := row_lt V0.2
  go_enter Tryd.func66, Tryd.ntmps66
  go_wp2_with fail
  refine wp_region_noPanic ?_
  refine wp_region_held (S := fun _ => True) follows ?_
  refine wpAnyH_take (i := 0) (v := .slice p m c) rfl (by kernel_rfl) (by kernel_rfl) (by kernel_rfl) (fun _ _ _ h => h) (.inl ⟨rfl, fun W _ => by go_simp⟩) trivial ?_
  simp only [Act.put, List.getElem_toArray, List.getElem_cons_zero, List.getElem_cons_succ, List.setIfInBounds_toArray, List.set_cons_zero, List.set_cons_succ]
  refine wpAnyH_take (i := 1) (v := .int .i64 n) rfl (by kernel_rfl) (by kernel_rfl) (by kernel_rfl) (fun _ _ _ h => h) (.inl ⟨rfl, fun W _ => by go_simp⟩) trivial ?_
  simp only [Act.put, List.getElem_toArray, List.getElem_cons_zero, List.getElem_cons_succ, List.setIfInBounds_toArray, List.set_cons_zero, List.set_cons_succ]
  refine wpAnyH_take (i := 2) (v := .int .u64 n) rfl (by kernel_rfl) (by kernel_rfl) (by kernel_rfl) (fun _ _ _ h => h) (.inl ⟨rfl, fun W _ => by go_simp⟩) trivial ?_
  simp only [Act.put, List.getElem_toArray, List.getElem_cons_zero, List.getElem_cons_succ, List.setIfInBounds_toArray, List.set_cons_zero, List.set_cons_succ]
  refine wpAnyH_take (i := 4) (v := .slice (some ⟨w.heap.size, 0, none⟩) 32 32) rfl (by kernel_rfl) (by kernel_rfl) (by kernel_rfl) (fun _ _ _ h => h) (.inl ⟨rfl, fun W _ => by go_simp⟩) trivial ?_
  simp only [Act.put, List.getElem_toArray, List.getElem_cons_zero, List.getElem_cons_succ, List.setIfInBounds_toArray, List.set_cons_zero, List.set_cons_succ]
  refine relist #[true, true, true, false, true, false, false, false, false] (by kernel_rfl) ?_
  refine any_one (i := 3) (by kernel_rfl) ?_
  refine wpOp_call (f := 81) (args := #[.int .u64 n, .int .i64 8]) rfl rfl (by go_simp) ?_
  refine (highest_any n 8 _ (by omega)).mono ?_
  rintro e w1 ⟨rfl, b1, hg1⟩
  have B1 : Below V.heap.size V w1 := by rw [hV]; exact ((Below.refl _ _).drew).trans b1
  have e1 : V.heap.size = w.heap.size + 1 + 1 := by rw [hV]; simp
  have hg1' : w1.heap[w.heap.size + 1 + 1]? = some (.cells (A8 (longI n 8)) 5) := by rw [← e1]; rw [hV]; exact hg1
  have hs1 := B1.size
  have hl1 := row_lt hg1'
  refine ⟨_, rfl, trivial, ?_⟩
  simp only [Act.put, List.getElem_toArray, List.getElem_cons_zero, List.getElem_cons_succ, List.setIfInBounds_toArray, List.set_cons_zero, List.set_cons_succ]
  refine relist #[true, true, true, true, true, false, false, false, false] (by kernel_rfl) ?_
  refine any_one (i := 5) (by kernel_rfl) ?_
  refine wpOp_val (v := .slice (some ⟨w1.heap.size, 0, none⟩) 2 2) (w' := w1.alloc (.cells #[.slice (some ⟨w.heap.size + 1 + 1, 0, none⟩) 8 8, .slice (some ⟨w.heap.size, 0, none⟩) 32 32] 22)) rfl rfl (by go_simp) ?_
  refine ⟨trivial, ?_⟩
  simp only [Act.put, List.getElem_toArray, List.getElem_cons_zero, List.getElem_cons_succ, List.setIfInBounds_toArray, List.set_cons_zero, List.set_cons_succ]
  refine relist #[true, true, true, true, true, true, false, false, false] (by kernel_rfl) ?_
  have h2' := heapN w1 (.cells #[.slice (some ⟨w.heap.size + 1 + 1, 0, none⟩) 8 8, .slice (some ⟨w.heap.size, 0, none⟩) 32 32] 22) _ rfl
  have B2 : Below V.heap.size V (w1.alloc (.cells #[.slice (some ⟨w.heap.size + 1 + 1, 0, none⟩) 8 8, .slice (some ⟨w.heap.size, 0, none⟩) 32 32] 22)) := B1.alloc hs1 _
  have g2 := (heapO w1 (.cells #[.slice (some ⟨w.heap.size + 1 + 1, 0, none⟩) 8 8, .slice (some ⟨w.heap.size, 0, none⟩) 32 32] 22) _ hl1).trans hg1'
  have r2 := (B2.block w.heap.size (by omega)).trans V0.1
  generalize w1.alloc (.cells #[.slice (some ⟨w.heap.size + 1 + 1, 0, none⟩) 8 8, .slice (some ⟨w.heap.size, 0, none⟩) 32 32] 22) = w2 at *
  generalize w1.heap.size = k2 at *
  have ec := cat2 (longI n 8) R
  have hn8 := longI_len n 8
  refine any_one (i := 6) (by kernel_rfl) ?_
  refine wpOp_call (f := 97) (args := #[.slice (some ⟨k2, 0, none⟩) 2 2]) rfl rfl (by go_simp) ?_
  refine (concat_any k2 2 (pf2 (some ⟨w.heap.size + 1 + 1, 0, none⟩) (some ⟨w.heap.size, 0, none⟩)) (nf2 8 32) (nf2 8 32) (xf2 (longI n 8) R) _ (by omega) ?_ ?_ (by rw [ec, List.length_append]; omega) (by rw [ec, List.length_append]; omega)).mono ?_
  · intro i hi'
    rw [cell_of_row _ _ _ _ _ _ h2']
    rcases i with _ | _ | i
    · rfl
    · rfl
    · omega
  · intro i hi'
    rcases i with _ | _ | i
    · exact in8_blk (n := 8) hn8 (longI_bytes n 8) (by omega) g2
    · exact in8_blk (n := 32) hl hb (by omega) r2
    · omega
  rintro e w3 ⟨p3, n3, c3, rfl, b3, hi3⟩
  rw [ec] at hi3
  have B3 : Below V.heap.size V w3 := B2.trans (b3.mono B2.size)
  refine ⟨_, rfl, trivial, ?_⟩
  simp only [Act.put, List.getElem_toArray, List.getElem_cons_zero, List.getElem_cons_succ, List.setIfInBounds_toArray, List.set_cons_zero, List.set_cons_succ]
  refine relist #[true, true, true, true, true, true, true, false, false] (by kernel_rfl) ?_
  have BW : Below w.heap.size w w3 := hb0.trans (B3.mono hb0.size)
  refine any_one (i := 7) (by kernel_rfl) ?_
  refine wpOp_call (f := 55) (args := #[.slice p m c, .slice p3 n3 c3]) rfl rfl (by go_simp) ?_
  refine (tag_any KS HS w3 (hT.below BW) p p3 m c n3 c3 key (longI n 8 ++ R) (hi.below BW) hi3).mono ?_
  rintro e w4 ⟨rfl, b4⟩
  have B4 : Below V.heap.size V w4 := B3.trans (b4.mono B3.size)
  have hkl := signP_len key n R
  have es : tagP KS HS key (longI n 8 ++ R) = signP key n R := rfl
  rw [es]
  obtain ⟨D, hD⟩ : ∃ D, signP key n R = D := ⟨_, rfl⟩
  have HD : Hid (signP key n R = D) := hD
  rw [hD] at hkl ⊢
  clear hD es
  have d4 : Dg w4 (w.heap.size + 1) Z32 := ⟨rfl, (B4.block _ (by omega)).trans V0.2⟩
  refine ⟨_, rfl, trivial, ?_⟩
  simp only [Act.put, List.getElem_toArray, List.getElem_cons_zero, List.getElem_cons_succ, List.setIfInBounds_toArray, List.set_cons_zero, List.set_cons_succ]
  refine relist #[true, true, true, true, true, true, true, true, false] (by kernel_rfl) ?_
  refine any_one (i := 8) (by kernel_rfl) ?_
  refine wpOp_store_D rfl rfl (.tmp 6) (.tmp 14) rfl (w.heap.size + 1) D rfl rfl Z32 d4 hkl ?_
  intro U hU
  refine ⟨trivial, ?_⟩
  simp only [Act.put, List.getElem_toArray, List.getElem_cons_zero, List.getElem_cons_succ, List.setIfInBounds_toArray, List.set_cons_zero, List.set_cons_succ]
  refine wpAnyH_done (by kernel_rfl) ?_ _
  refine NoPanic.normal ?_
  have dU : Hid (Dg U (w.heap.size + 1) D) := hU.dg hkl
  have bU : Hid (Below w.heap.size w U) := hU.below _ _ (by omega) (hb0.trans (B4.mono hb0.size))
  clear hU d4 B1 B2 B3 B4 b1 b3 b4 BW h2' g2 r2 hi3 V0 hb0
  go_wp2_with fail
  exact bodyPost_ret (results_D rfl _ _ (w.heap.size + 1) D rfl dU.out) rfl ⟨by rw [HD.out], bU.out⟩
set_option maxHeartbeats 2000000 in
theorem refSign_any (w : World) (l : List UInt8) (key : List Int) (hk : toI l = key) (hlk : l.length ≤ 140737488355400) (n : Int) (R : List Int) (hl : R.length = 32) (hb : Bytes R) :
    Calls Tryd.prog 27 #[.string ⟨l.toArray⟩, .int .i64 n, .agg (A8 R)] w fun e w' => e = .returned (.agg (A8 (signP key n R))) ∧ Below w.heap.size w w' := by
  have hb0 := below2 w (.cells (A8 R) 25) (.cells Z8x32 25)
  have V0 := heap2 w (.cells (A8 R) 25) (.cells Z8x32 25)
  obtain ⟨V, hV⟩ : ∃ V, V = (w.alloc (.cells (A8 R) 25)).alloc (.cells Z8x32 25) := ⟨_, rfl⟩
  rw [← hV] at hb0 V0
  have l0 := row_lt V0.2
  have l1 := row_lt V0.1
  have S0 : Dg V.drew w.heap.size R := ⟨hl, V0.1⟩
  go_enter Tryd.func27, Tryd.ntmps27
  go_wp2_with fail
  refine wp_region_noPanic ?_
  refine wp_region_held (S := fun W => Dg W w.heap.size R) follows ?_
  refine wpAnyH_take (i := 0) (v := .string ⟨l.toArray⟩) rfl (by kernel_rfl) (by kernel_rfl) (by kernel_rfl) (fun _ _ _ h => h) (.inl ⟨rfl, fun W _ => by go_simp⟩) (hV ▸ S0) ?_
  simp only [Act.put, List.getElem_toArray, List.getElem_cons_zero, List.getElem_cons_succ, List.setIfInBounds_toArray, List.set_cons_zero, List.set_cons_succ]
  refine wpAnyH_take (i := 1) (v := .int .i64 n) rfl (by kernel_rfl) (by kernel_rfl) (by kernel_rfl) (fun _ _ _ h => h) (.inl ⟨rfl, fun W _ => by go_simp⟩) (hV ▸ S0) ?_
  simp only [Act.put, List.getElem_toArray, List.getElem_cons_zero, List.getElem_cons_succ, List.setIfInBounds_toArray, List.set_cons_zero, List.set_cons_succ]
  refine wpAnyH_take (i := 3) (v := .agg (A8 R)) rfl (by kernel_rfl) (by kernel_rfl) (by kernel_rfl) (fun _ _ _ h => h) (yields_D rfl (.tmp 5) rfl w.heap.size rfl R hl (fun W hW => hW)) (hV ▸ S0) ?_
  simp only [Act.put, List.getElem_toArray, List.getElem_cons_zero, List.getElem_cons_succ, List.setIfInBounds_toArray, List.set_cons_zero, List.set_cons_succ]
  refine relist #[true, true, false, true, false, false, false, false] (by kernel_rfl) ?_
  refine any_one (i := 2) (by kernel_rfl) ?_
  refine wpOp_call (f := 65) (args := #[.int .i64 n, .int .i64 8]) rfl rfl (by go_simp) ?_
  refine (long_any n 8 _ (by omega)).mono ?_
  rintro e w1 ⟨rfl, b1⟩
  have B1 : Below V.heap.size V w1 := by rw [hV]; exact ((Below.refl _ _).drew).trans b1
  have S1 : Dg w1 w.heap.size R := ⟨hl, (B1.block _ l1).trans V0.1⟩
  refine ⟨_, rfl, S1, ?_⟩
  simp only [Act.put, List.getElem_toArray, List.getElem_cons_zero, List.getElem_cons_succ, List.setIfInBounds_toArray, List.set_cons_zero, List.set_cons_succ]
  refine relist #[true, true, true, true, false, false, false, false] (by kernel_rfl) ?_
  refine any_one (i := 4) (by kernel_rfl) ?_
  refine wpOp_call (f := 60) (args := #[.agg (A8 R)]) rfl rfl (by go_simp) ?_
  refine (text_any R _ hl).mono ?_
  rintro e w2 ⟨rfl, b2⟩
  have B2 : Below V.heap.size V w2 := B1.trans (b2.mono B1.size)
  have S2 : Dg w2 w.heap.size R := ⟨hl, (B2.block _ l1).trans V0.1⟩
  have hsA : (ByteArray.mk (longU n 8).toArray).size = 8 := by show (longU n 8).toArray.size = _; simp [longU_len]
  have hsR : (ByteArray.mk (toU R).toArray).size = 32 := by show (toU R).toArray.size = _; simp [toU_len, hl]
  have eA : (ByteArray.mk (longU n 8).toArray) ++ (ByteArray.mk (toU R).toArray) = ByteArray.mk (longU n 8 ++ toU R).toArray := ByteArray.mk_append_mk (longU n 8) (toU R)
  refine ⟨_, rfl, S2, ?_⟩
  simp only [Act.put, List.getElem_toArray, List.getElem_cons_zero, List.getElem_cons_succ, List.setIfInBounds_toArray, List.set_cons_zero, List.set_cons_succ]
  refine wpAnyH_take (i := 5) (v := .string ⟨(longU n 8 ++ toU R).toArray⟩) rfl (by kernel_rfl) (by kernel_rfl) (by kernel_rfl) (fun _ _ _ h => h) (.inl ⟨rfl, fun W _ => by go_simp⟩) S2 ?_
  simp only [Act.put, List.getElem_toArray, List.getElem_cons_zero, List.getElem_cons_succ, List.setIfInBounds_toArray, List.set_cons_zero, List.set_cons_succ]
  refine relist #[true, true, true, true, true, true, false, false] (by kernel_rfl) ?_
  refine any_one (i := 6) (by kernel_rfl) ?_
  refine wpOp_call (f := 20) (args := #[.string ⟨l.toArray⟩, .string ⟨(longU n 8 ++ toU R).toArray⟩]) rfl rfl (by go_simp) ?_
  refine (refTag_any l (longU n 8 ++ toU R) _ hlk (by rw [List.length_append, longU_len, toU_len]; omega)).mono ?_
  rintro e w4 ⟨rfl, b4⟩
  have es : refTagP l (longU n 8 ++ toU R) = signP key n R := by
    rw [← tag_same, hk, toI_append, toI_longU, toI_toU R hb]; rfl
  rw [es]
  have B4 : Below V.heap.size V w4 := B2.trans (b4.mono B2.size)
  have hkl := signP_len key n R
  obtain ⟨D, hD⟩ : ∃ D, signP key n R = D := ⟨_, rfl⟩
  have HD : Hid (signP key n R = D) := hD
  rw [hD] at hkl ⊢
  clear hD es
  have d4 : Dg w4 (w.heap.size + 1) Z32 := ⟨rfl, (B4.block _ l0).trans V0.2⟩
  have S4 : Dg w4 w.heap.size R := ⟨hl, (B4.block _ l1).trans V0.1⟩
  refine ⟨_, rfl, S4, ?_⟩
  simp only [Act.put, List.getElem_toArray, List.getElem_cons_zero, List.getElem_cons_succ, List.setIfInBounds_toArray, List.set_cons_zero, List.set_cons_succ]
  refine relist #[true, true, true, true, true, true, true, false] (by kernel_rfl) ?_
  refine any_one (i := 7) (by kernel_rfl) ?_
  refine wpOp_store_D rfl rfl (.tmp 6) (.tmp 13) rfl (w.heap.size + 1) D rfl rfl Z32 d4 hkl ?_
  intro U hU
  refine ⟨S4.other hU (by omega), ?_⟩
  simp only [Act.put, List.getElem_toArray, List.getElem_cons_zero, List.getElem_cons_succ, List.setIfInBounds_toArray, List.set_cons_zero, List.set_cons_succ]
  refine wpAnyH_done (by kernel_rfl) ?_ _
  refine NoPanic.normal ?_
  have dU : Hid (Dg U (w.heap.size + 1) D) := hU.dg hkl
  have bU : Hid (Below w.heap.size w U) := hU.below _ _ (by omega) (hb0.trans (B4.mono hb0.size))
  clear hU d4 B1 B2 B4 b1 b2 b4 S0 S1 S2 S4 V0 hb0 eA
  go_wp2_with fail
  exact bodyPost_ret (results_D rfl _ _ (w.heap.size + 1) D rfl dU.out) rfl ⟨by rw [HD.out], bU.out⟩
end Go.Proofs.YtcmjlhcpoajbkaaDoor
