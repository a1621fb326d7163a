import Derived.Test.YtcmjlhcpoajbkaaDoorQTag
import Derived.Deep.DeepCutAuto
namespace Go.Proofs.YtcmjlhcpoajbkaaDoor
set_option maxRecDepth 10000
open Go.RowKit
def maskP (K : List Int) (m : Int) : List Int := K.map fun b => bits .xor .u8 b m
theorem maskP_len (K : List Int) (m : Int) : (maskP K m).length = K.length := by simp [maskP]
theorem bits_u8_range (op : BinOp) (x y : Int) : 0 ≤ bits op .u8 x y ∧ bits op .u8 x y < 256 := by
  unfold bits
  have e : ∀ n, IntKind.u8.wrap n = n % 256 := fun n => by simp [IntKind.wrap, IntKind.bits, IntKind.signed]
  simp only [e]
  omega
theorem maskP_bytes (K : List Int) (m : Int) : Bytes (maskP K m) := .of fun x hx => by
  simp only [maskP, List.mem_map] at hx
  obtain ⟨b, _, rfl⟩ := hx
  exact bits_u8_range _ _ _
theorem masked_p (K : List Int) (m : Int) (w : World) (hb : K.length = 64) :
    Calls Tryd.prog 91 #[.agg (A8 K), .int .u8 m] w fun e w' => e = .returned (.agg (A8 (maskP K m))) ∧ Below w.heap.size w w' := masked_any K m w hb
def tagP (ks hs key data : List Int) : List Int :=
  finP ks (tstate ks hs (maskP (kblock ks hs key) 92)) (64 + 32) (finP ks (tstate ks hs (maskP (kblock ks hs key) 54)) (64 + data.length) data)
set_option maxHeartbeats 400000 in
theorem tag_any (ks hs : List Int) (w : World) (hT : Tabs ks hs w) (p p' : Option Addr) (n cap n' cap' : Nat) (xs ys : List Int) (hi : In8 w p n cap xs) (hj : In8 w p' n' cap' ys) :
    Calls Tryd.prog 55 #[.slice p n cap, .slice p' n' cap'] w fun e w' => e = .returned (.agg (A8 (tagP ks hs xs ys))) ∧ Below w.heap.size w w' := by
  have hb0 : Below w.heap.size w (w.alloc (.cells Z8x32 25)) := (Below.refl _ _).alloc (Nat.le_refl _) _
  have hE : tagP ks hs xs ys = finP ks (tstate ks hs (maskP (kblock ks hs xs) 92)) (64 + 32) (finP ks (tstate ks hs (maskP (kblock ks hs xs) 54)) (64 + n') ys) := by
    rw [tagP, hj.len]
  have hKl := kblock_len ks hs xs
  go_enter Tryd.func55, Tryd.ntmps55
  go_wp2_with fail
  refine (keyBlock_any ks hs _ (hT.below hb0) p n cap xs (hi.below hb0)).mono ?_
  rintro e w1 ⟨rfl, hb1⟩
  generalize kblock ks hs xs = K at *
  have HE : Hid (tagP ks hs xs ys = _) := hE
  have hz : Hid (w1.heap[w.heap.size]? = _) := (hb1.block w.heap.size (by simp)).trans (heapN w _ _ rfl)
  have hB := hb0.trans (hb1.mono (by simp))
  have hz1 : w.heap.size < w1.heap.size := by have := hb1.size; simp at this; omega
  clear hE hb1
  go_wp2_with (first
    | (with_reducible refine atStore 146 ?_
       refine wpList_store_W rfl 146 (.tmp 5) (.tmp 8) rfl w1.heap.size (A8 K) rfl rfl 146 Z8x64 ?_ (by rw [info43, A8_size, hKl]) (by rw [A8_size, hKl]; rfl) (A8_one _) ?_
       · exact heapN w1 _ _ rfl
       intro V hV
       refine hideGoal ?_))
  have vz : Hid (V.heap[w.heap.size]? = _) := ((hV.other w.heap.size (by omega)).trans (heapO w1 _ _ (by omega))).trans hz.out
  have vb := hV.below _ _ (by omega) (hB.alloc (by omega) _)
  have vg : Hid (V.heap[w1.heap.size]? = _) := hV.here
  have vs : w1.heap.size < V.heap.size := by rw [hV.size]; simp
  clear hV hz hB
  generalize w1.heap.size = g at *
  have hTV := hT.below vb
  have hjV := hj.below vb
  obtain ⟨tS, fr, hst⟩ := hTV.start
  have Hst : Hid (V.heap[0]? = _) := hst
  clear hst
  refine openGoal ?_
  go_wp2_with fail
  have hV0 : 0 < V.heap.size := by omega
  obtain ⟨D, hD⟩ : ∃ D, finP ks (tstate ks hs (maskP K 54)) (64 + n') ys = D := ⟨_, rfl⟩
  have hDl : D.length = 32 := by rw [← hD]; exact finP_len _ _ _ _
  have hDb : Bytes D := by rw [← hD]; exact finP_bytes _ _ _ _
  have hE2 := HE.out
  rw [hD] at hE2
  have HE2 : Hid (tagP ks hs xs ys = _) := hE2
  have HD : Hid _ := hD
  clear hE2 HE hD
  go_cut [6] (fun s6 wc => ∃ g6, s6 = .pointer (some ⟨g6, 0, none⟩) ∧ wc.heap[g6]? = some (.cells (A8 D) 25) ∧ g < g6 ∧ Below V.heap.size V wc)
  case first =>
    have hD := HD.out
    refine wp_region_noPanic ?_
    refine wp_region_held (S := fun w' => w'.heap[0]? = some (.cells (A32 hs) tS fr) ∧ w'.heap[g]? = some (.cells (A8 K) 146)) follows ?_
    refine wpAnyH_take (i := 0) rfl (by kernel_rfl) (by kernel_rfl) (by kernel_rfl) (fun _ _ _ h => h) (yieldsIf_load_row rfl 143 (.global 0) rfl 0 rfl tS (A32 hs) fr (.array 8 98) (fun _ h => h.1) und40 rfl (by rw [info40, A32_size, hT.hlen])) ⟨Hst.out, vg.out⟩ ?_
    refine reframe #[true, false, false, false, false, false, false, false] { tmps := #[.slice p n cap, .slice p' n' cap', undef, undef, .pointer (some ⟨w.heap.size, 0, none⟩), .pointer (some ⟨g, 0, none⟩), undef, .slice p n cap, .agg (A8 K), .agg (A32 hs), undef, undef, undef, undef, undef, undef, undef, undef, undef, undef, undef], defers := [] } (by kernel_rfl) (by rfl) ?_
    refine wpAnyH_take (i := 1) rfl (by kernel_rfl) (by kernel_rfl) (by kernel_rfl) (fun _ _ _ h => h) (yieldsIf_load_row rfl 146 (.tmp 5) rfl g rfl 146 (A8 K) (0, 0) (.array 64 5) (fun _ h => h.2) und43 rfl (by rw [info43, A8_size, hKl])) ⟨Hst.out, vg.out⟩ ?_
    refine reframe #[true, true, false, false, false, false, false, false] { tmps := #[.slice p n cap, .slice p' n' cap', undef, undef, .pointer (some ⟨w.heap.size, 0, none⟩), .pointer (some ⟨g, 0, none⟩), undef, .slice p n cap, .agg (A8 K), .agg (A32 hs), .agg (A8 K), undef, undef, undef, undef, undef, undef, undef, undef, undef, undef], defers := [] } (by kernel_rfl) (by rfl) ?_
    refine wpAnyH_take (i := 4) rfl (by kernel_rfl) (by kernel_rfl) (by kernel_rfl) (fun _ _ _ h => h) (yieldsIf_move rfl (.tmp 1) rfl) ⟨Hst.out, vg.out⟩ ?_
    refine reframe #[true, true, false, false, true, false, false, false] { tmps := #[.slice p n cap, .slice p' n' cap', undef, undef, .pointer (some ⟨w.heap.size, 0, none⟩), .pointer (some ⟨g, 0, none⟩), undef, .slice p n cap, .agg (A8 K), .agg (A32 hs), .agg (A8 K), undef, undef, .slice p' n' cap', undef, undef, undef, undef, undef, undef, undef], defers := [] } (by kernel_rfl) (by rfl) ?_
    have eV : Below V.heap.size V V.drew := (Below.refl _ _).drew
    refine any_two (i := 2) (j := 6) (by kernel_rfl) ?_ ?_
    · skip
      refine wpOp_call (f := 91) (args := #[.agg (A8 K), .int .u8 54]) rfl rfl (by go_simp) ?_
      refine (masked_p K 54 _ hKl).mono ?_
      rintro e y1 ⟨rfl, hb⟩
      have hb' : Below V.heap.size V y1 := ⟨hb.os, hb.tape, hb.output, hb.size, hb.block⟩
      have e1 : Below V.heap.size V y1 := hb'
      clear hb hb'
      refine ⟨_, rfl, ⟨(e1.block 0 hV0).trans Hst.out, (e1.block g vs).trans vg.out⟩, ?_⟩
      refine reframe #[true, true, true, false, true, false, false, false] { tmps := #[.slice p n cap, .slice p' n' cap', undef, undef, .pointer (some ⟨w.heap.size, 0, none⟩), .pointer (some ⟨g, 0, none⟩), undef, .slice p n cap, .agg (A8 K), .agg (A32 hs), .agg (A8 K), .agg (A8 (maskP K 54)), undef, .slice p' n' cap', undef, undef, undef, undef, undef, undef, undef], defers := [] } (by kernel_rfl) (by rfl) ?_
      refine any_two (i := 3) (j := 6) (by kernel_rfl) ?_ ?_
      · skip
        refine wpOp_call (f := 90) (args := #[.agg (A32 hs), .agg (A8 (maskP K 54))]) rfl rfl (by go_simp) ?_
        refine (take_any ks hs (maskP K 54) _ hT.klen hT.hlen (by rw [maskP_len, hKl]) (maskP_bytes K 54) (hTV.below e1).rounds).mono ?_
        rintro e y2 ⟨rfl, hb⟩
        have e2 : Below V.heap.size V y2 := e1.trans (hb.mono e1.size)
        clear hb
        refine ⟨_, rfl, ⟨(e2.block 0 hV0).trans Hst.out, (e2.block g vs).trans vg.out⟩, ?_⟩
        refine reframe #[true, true, true, true, true, false, false, false] { tmps := #[.slice p n cap, .slice p' n' cap', undef, undef, .pointer (some ⟨w.heap.size, 0, none⟩), .pointer (some ⟨g, 0, none⟩), undef, .slice p n cap, .agg (A8 K), .agg (A32 hs), .agg (A8 K), .agg (A8 (maskP K 54)), .agg (A32 (tstate ks hs (maskP K 54))), .slice p' n' cap', undef, undef, undef, undef, undef, undef, undef], defers := [] } (by kernel_rfl) (by rfl) ?_
        refine any_two (i := 5) (j := 6) (by kernel_rfl) ?_ ?_
        · skip
          refine wpOp_call (f := 88) (args := #[.agg (A32 (tstate ks hs (maskP K 54))), .int .i64 (64 : Nat), .slice p' n' cap']) rfl rfl (by go_simp) ?_
          refine (fin_in (hTV.below e2) (tstate_len _ _ _) 64 (by omega) (hjV.below e2)).mono ?_
          rintro e y3 ⟨rfl, hb⟩
          have e3 : Below V.heap.size V y3 := e2.trans (hb.mono e2.size)
          clear hb
          rw [hD]
          refine ⟨_, rfl, ⟨(e3.block 0 hV0).trans Hst.out, (e3.block g vs).trans vg.out⟩, ?_⟩
          refine reframe #[true, true, true, true, true, true, false, false] { tmps := #[.slice p n cap, .slice p' n' cap', undef, undef, .pointer (some ⟨w.heap.size, 0, none⟩), .pointer (some ⟨g, 0, none⟩), undef, .slice p n cap, .agg (A8 K), .agg (A32 hs), .agg (A8 K), .agg (A8 (maskP K 54)), .agg (A32 (tstate ks hs (maskP K 54))), .slice p' n' cap', .agg (A8 D), undef, undef, undef, undef, undef, undef], defers := [] } (by kernel_rfl) (by rfl) ?_
          refine any_one (i := 6) (by kernel_rfl) ?_
          have h6b : V.heap.size ≤ y3.heap.size := e3.size
          have c4 : Below V.heap.size V (y3.alloc (.cells Z8x32 25)) := e3.alloc h6b _
          refine wpOp_val (v := .pointer (some ⟨y3.heap.size, 0, none⟩)) (w' := y3.alloc (.cells Z8x32 25)) rfl rfl ?_ ⟨⟨(c4.block 0 hV0).trans Hst.out, (c4.block g vs).trans vg.out⟩, ?_⟩
          · go_simp
            rfl
          have h6 : (y3.alloc (.cells Z8x32 25)).heap[y3.heap.size]? = some (.cells Z8x32 25) := heapN y3 _ _ rfl
          obtain ⟨x4, hx4⟩ : ∃ x, x = y3.alloc (.cells Z8x32 25) := ⟨_, rfl⟩
          obtain ⟨g6, hg6⟩ : ∃ x, x = y3.heap.size := ⟨_, rfl⟩
          have l6 : y3.heap.size < (y3.alloc (.cells Z8x32 25)).heap.size := by simp
          rw [← hx4] at c4 h6 l6 ⊢
          rw [← hg6] at h6 h6b l6 ⊢
          clear hx4 hg6
          refine reframe #[true, true, true, true, true, true, true, false] { tmps := #[.slice p n cap, .slice p' n' cap', undef, undef, .pointer (some ⟨w.heap.size, 0, none⟩), .pointer (some ⟨g, 0, none⟩), .pointer (some ⟨g6, 0, none⟩), .slice p n cap, .agg (A8 K), .agg (A32 hs), .agg (A8 K), .agg (A8 (maskP K 54)), .agg (A32 (tstate ks hs (maskP K 54))), .slice p' n' cap', .agg (A8 D), undef, undef, undef, undef, undef, undef], defers := [] } (by kernel_rfl) (by rfl) ?_
          refine any_one (i := 7) (by kernel_rfl) ?_
          refine wpOp_store_W rfl rfl 25 (.tmp 6) (.tmp 14) rfl g6 (A8 D) rfl rfl 25 Z8x32 h6 (by rw [info25, A8_size, hDl]) (by rw [A8_size, hDl]; rfl) (A8_one _) ?_
          intro U hU
          have u5 := hU.below V.heap.size V h6b c4
          refine ⟨⟨(u5.block 0 hV0).trans Hst.out, (u5.block g vs).trans vg.out⟩, wpAnyH_done (by kernel_rfl) ?_ _⟩
          refine NoPanic.normal ?_
          have uu : Hid _ := hU.here
          clear hU h6
          go_wp2_with fail
          go_meet
          case rel => exact ⟨g6, rfl, uu.out, Nat.lt_of_lt_of_le vs h6b, u5⟩
        · skip
          have h6b : V.heap.size ≤ y2.heap.size := e2.size
          have c5 : Below V.heap.size V (y2.alloc (.cells Z8x32 25)) := e2.alloc h6b _
          refine wpOp_val (v := .pointer (some ⟨y2.heap.size, 0, none⟩)) (w' := y2.alloc (.cells Z8x32 25)) rfl rfl ?_ ⟨⟨(c5.block 0 hV0).trans Hst.out, (c5.block g vs).trans vg.out⟩, ?_⟩
          · go_simp
            rfl
          have h6 : (y2.alloc (.cells Z8x32 25)).heap[y2.heap.size]? = some (.cells Z8x32 25) := heapN y2 _ _ rfl
          obtain ⟨x5, hx5⟩ : ∃ x, x = y2.alloc (.cells Z8x32 25) := ⟨_, rfl⟩
          obtain ⟨g6, hg6⟩ : ∃ x, x = y2.heap.size := ⟨_, rfl⟩
          have l6 : y2.heap.size < (y2.alloc (.cells Z8x32 25)).heap.size := by simp
          rw [← hx5] at c5 h6 l6 ⊢
          rw [← hg6] at h6 h6b l6 ⊢
          clear hx5 hg6
          refine reframe #[true, true, true, true, true, false, true, false] { tmps := #[.slice p n cap, .slice p' n' cap', undef, undef, .pointer (some ⟨w.heap.size, 0, none⟩), .pointer (some ⟨g, 0, none⟩), .pointer (some ⟨g6, 0, none⟩), .slice p n cap, .agg (A8 K), .agg (A32 hs), .agg (A8 K), .agg (A8 (maskP K 54)), .agg (A32 (tstate ks hs (maskP K 54))), .slice p' n' cap', undef, undef, undef, undef, undef, undef, undef], defers := [] } (by kernel_rfl) (by rfl) ?_
          refine any_one (i := 5) (by kernel_rfl) ?_
          refine wpOp_call (f := 88) (args := #[.agg (A32 (tstate ks hs (maskP K 54))), .int .i64 (64 : Nat), .slice p' n' cap']) rfl rfl (by go_simp) ?_
          refine (fin_in (hTV.below c5) (tstate_len _ _ _) 64 (by omega) (hjV.below c5)).mono ?_
          rintro e y6 ⟨rfl, hb⟩
          have e6 : Below V.heap.size V y6 := c5.trans (hb.mono c5.size)
          have h6' := (hb.block g6 l6).trans h6
          have l6' := Nat.lt_of_lt_of_le l6 hb.size
          clear h6 l6
          have h6 := h6'
          have l6 := l6'
          clear h6' l6'
          clear hb
          rw [hD]
          refine ⟨_, rfl, ⟨(e6.block 0 hV0).trans Hst.out, (e6.block g vs).trans vg.out⟩, ?_⟩
          refine reframe #[true, true, true, true, true, true, true, false] { tmps := #[.slice p n cap, .slice p' n' cap', undef, undef, .pointer (some ⟨w.heap.size, 0, none⟩), .pointer (some ⟨g, 0, none⟩), .pointer (some ⟨g6, 0, none⟩), .slice p n cap, .agg (A8 K), .agg (A32 hs), .agg (A8 K), .agg (A8 (maskP K 54)), .agg (A32 (tstate ks hs (maskP K 54))), .slice p' n' cap', .agg (A8 D), undef, undef, undef, undef, undef, undef], defers := [] } (by kernel_rfl) (by rfl) ?_
          refine any_one (i := 7) (by kernel_rfl) ?_
          refine wpOp_store_W rfl rfl 25 (.tmp 6) (.tmp 14) rfl g6 (A8 D) rfl rfl 25 Z8x32 h6 (by rw [info25, A8_size, hDl]) (by rw [A8_size, hDl]; rfl) (A8_one _) ?_
          intro U hU
          have u5 := hU.below V.heap.size V h6b e6
          refine ⟨⟨(u5.block 0 hV0).trans Hst.out, (u5.block g vs).trans vg.out⟩, wpAnyH_done (by kernel_rfl) ?_ _⟩
          refine NoPanic.normal ?_
          have uu : Hid _ := hU.here
          clear hU h6
          go_wp2_with fail
          go_meet
          case rel => exact ⟨g6, rfl, uu.out, Nat.lt_of_lt_of_le vs h6b, u5⟩
      · skip
        have h6b : V.heap.size ≤ y1.heap.size := e1.size
        have c7 : Below V.heap.size V (y1.alloc (.cells Z8x32 25)) := e1.alloc h6b _
        refine wpOp_val (v := .pointer (some ⟨y1.heap.size, 0, none⟩)) (w' := y1.alloc (.cells Z8x32 25)) rfl rfl ?_ ⟨⟨(c7.block 0 hV0).trans Hst.out, (c7.block g vs).trans vg.out⟩, ?_⟩
        · go_simp
          rfl
        have h6 : (y1.alloc (.cells Z8x32 25)).heap[y1.heap.size]? = some (.cells Z8x32 25) := heapN y1 _ _ rfl
        obtain ⟨x7, hx7⟩ : ∃ x, x = y1.alloc (.cells Z8x32 25) := ⟨_, rfl⟩
        obtain ⟨g6, hg6⟩ : ∃ x, x = y1.heap.size := ⟨_, rfl⟩
        have l6 : y1.heap.size < (y1.alloc (.cells Z8x32 25)).heap.size := by simp
        rw [← hx7] at c7 h6 l6 ⊢
        rw [← hg6] at h6 h6b l6 ⊢
        clear hx7 hg6
        refine reframe #[true, true, true, false, true, false, true, false] { tmps := #[.slice p n cap, .slice p' n' cap', undef, undef, .pointer (some ⟨w.heap.size, 0, none⟩), .pointer (some ⟨g, 0, none⟩), .pointer (some ⟨g6, 0, none⟩), .slice p n cap, .agg (A8 K), .agg (A32 hs), .agg (A8 K), .agg (A8 (maskP K 54)), undef, .slice p' n' cap', undef, undef, undef, undef, undef, undef, undef], defers := [] } (by kernel_rfl) (by rfl) ?_
        refine any_one (i := 3) (by kernel_rfl) ?_
        refine wpOp_call (f := 90) (args := #[.agg (A32 hs), .agg (A8 (maskP K 54))]) rfl rfl (by go_simp) ?_
        refine (take_any ks hs (maskP K 54) _ hT.klen hT.hlen (by rw [maskP_len, hKl]) (maskP_bytes K 54) (hTV.below c7).rounds).mono ?_
        rintro e y8 ⟨rfl, hb⟩
        have e8 : Below V.heap.size V y8 := c7.trans (hb.mono c7.size)
        have h6' := (hb.block g6 l6).trans h6
        have l6' := Nat.lt_of_lt_of_le l6 hb.size
        clear h6 l6
        have h6 := h6'
        have l6 := l6'
        clear h6' l6'
        clear hb
        refine ⟨_, rfl, ⟨(e8.block 0 hV0).trans Hst.out, (e8.block g vs).trans vg.out⟩, ?_⟩
        refine reframe #[true, true, true, true, true, false, true, false] { tmps := #[.slice p n cap, .slice p' n' cap', undef, undef, .pointer (some ⟨w.heap.size, 0, none⟩), .pointer (some ⟨g, 0, none⟩), .pointer (some ⟨g6, 0, none⟩), .slice p n cap, .agg (A8 K), .agg (A32 hs), .agg (A8 K), .agg (A8 (maskP K 54)), .agg (A32 (tstate ks hs (maskP K 54))), .slice p' n' cap', undef, undef, undef, undef, undef, undef, undef], defers := [] } (by kernel_rfl) (by rfl) ?_
        refine any_one (i := 5) (by kernel_rfl) ?_
        refine wpOp_call (f := 88) (args := #[.agg (A32 (tstate ks hs (maskP K 54))), .int .i64 (64 : Nat), .slice p' n' cap']) rfl rfl (by go_simp) ?_
        refine (fin_in (hTV.below e8) (tstate_len _ _ _) 64 (by omega) (hjV.below e8)).mono ?_
        rintro e y9 ⟨rfl, hb⟩
        have e9 : Below V.heap.size V y9 := e8.trans (hb.mono e8.size)
        have h6' := (hb.block g6 l6).trans h6
        have l6' := Nat.lt_of_lt_of_le l6 hb.size
        clear h6 l6
        have h6 := h6'
        have l6 := l6'
        clear h6' l6'
        clear hb
        rw [hD]
        refine ⟨_, rfl, ⟨(e9.block 0 hV0).trans Hst.out, (e9.block g vs).trans vg.out⟩, ?_⟩
        refine reframe #[true, true, true, true, true, true, true, false] { tmps := #[.slice p n cap, .slice p' n' cap', undef, undef, .pointer (some ⟨w.heap.size, 0, none⟩), .pointer (some ⟨g, 0, none⟩), .pointer (some ⟨g6, 0, none⟩), .slice p n cap, .agg (A8 K), .agg (A32 hs), .agg (A8 K), .agg (A8 (maskP K 54)), .agg (A32 (tstate ks hs (maskP K 54))), .slice p' n' cap', .agg (A8 D), undef, undef, undef, undef, undef, undef], defers := [] } (by kernel_rfl) (by rfl) ?_
        refine any_one (i := 7) (by kernel_rfl) ?_
        refine wpOp_store_W rfl rfl 25 (.tmp 6) (.tmp 14) rfl g6 (A8 D) rfl rfl 25 Z8x32 h6 (by rw [info25, A8_size, hDl]) (by rw [A8_size, hDl]; rfl) (A8_one _) ?_
        intro U hU
        have u5 := hU.below V.heap.size V h6b e9
        refine ⟨⟨(u5.block 0 hV0).trans Hst.out, (u5.block g vs).trans vg.out⟩, wpAnyH_done (by kernel_rfl) ?_ _⟩
        refine NoPanic.normal ?_
        have uu : Hid _ := hU.here
        clear hU h6
        go_wp2_with fail
        go_meet
        case rel => exact ⟨g6, rfl, uu.out, Nat.lt_of_lt_of_le vs h6b, u5⟩
    · skip
      have h6b : V.heap.size ≤ V.drew.heap.size := eV.size
      have c10 : Below V.heap.size V (V.drew.alloc (.cells Z8x32 25)) := eV.alloc h6b _
      refine wpOp_val (v := .pointer (some ⟨V.drew.heap.size, 0, none⟩)) (w' := V.drew.alloc (.cells Z8x32 25)) rfl rfl ?_ ⟨⟨(c10.block 0 hV0).trans Hst.out, (c10.block g vs).trans vg.out⟩, ?_⟩
      · go_simp
        rfl
      have h6 : (V.drew.alloc (.cells Z8x32 25)).heap[V.drew.heap.size]? = some (.cells Z8x32 25) := heapN V.drew _ _ rfl
      obtain ⟨x10, hx10⟩ : ∃ x, x = V.drew.alloc (.cells Z8x32 25) := ⟨_, rfl⟩
      obtain ⟨g6, hg6⟩ : ∃ x, x = V.drew.heap.size := ⟨_, rfl⟩
      have l6 : V.drew.heap.size < (V.drew.alloc (.cells Z8x32 25)).heap.size := by simp
      rw [← hx10] at c10 h6 l6 ⊢
      rw [← hg6] at h6 h6b l6 ⊢
      clear hx10 hg6
      refine reframe #[true, true, false, false, true, false, true, false] { tmps := #[.slice p n cap, .slice p' n' cap', undef, undef, .pointer (some ⟨w.heap.size, 0, none⟩), .pointer (some ⟨g, 0, none⟩), .pointer (some ⟨g6, 0, none⟩), .slice p n cap, .agg (A8 K), .agg (A32 hs), .agg (A8 K), undef, undef, .slice p' n' cap', undef, undef, undef, undef, undef, undef, undef], defers := [] } (by kernel_rfl) (by rfl) ?_
      refine any_one (i := 2) (by kernel_rfl) ?_
      refine wpOp_call (f := 91) (args := #[.agg (A8 K), .int .u8 54]) rfl rfl (by go_simp) ?_
      refine (masked_p K 54 _ hKl).mono ?_
      rintro e y11 ⟨rfl, hb⟩
      have e11 : Below V.heap.size V y11 := c10.trans (hb.mono c10.size)
      have h6' := (hb.block g6 l6).trans h6
      have l6' := Nat.lt_of_lt_of_le l6 hb.size
      clear h6 l6
      have h6 := h6'
      have l6 := l6'
      clear h6' l6'
      clear hb
      refine ⟨_, rfl, ⟨(e11.block 0 hV0).trans Hst.out, (e11.block g vs).trans vg.out⟩, ?_⟩
      refine reframe #[true, true, true, false, true, false, true, false] { tmps := #[.slice p n cap, .slice p' n' cap', undef, undef, .pointer (some ⟨w.heap.size, 0, none⟩), .pointer (some ⟨g, 0, none⟩), .pointer (some ⟨g6, 0, none⟩), .slice p n cap, .agg (A8 K), .agg (A32 hs), .agg (A8 K), .agg (A8 (maskP K 54)), undef, .slice p' n' cap', undef, undef, undef, undef, undef, undef, undef], defers := [] } (by kernel_rfl) (by rfl) ?_
      refine any_one (i := 3) (by kernel_rfl) ?_
      refine wpOp_call (f := 90) (args := #[.agg (A32 hs), .agg (A8 (maskP K 54))]) rfl rfl (by go_simp) ?_
      refine (take_any ks hs (maskP K 54) _ hT.klen hT.hlen (by rw [maskP_len, hKl]) (maskP_bytes K 54) (hTV.below e11).rounds).mono ?_
      rintro e y12 ⟨rfl, hb⟩
      have e12 : Below V.heap.size V y12 := e11.trans (hb.mono e11.size)
      have h6' := (hb.block g6 l6).trans h6
      have l6' := Nat.lt_of_lt_of_le l6 hb.size
      clear h6 l6
      have h6 := h6'
      have l6 := l6'
      clear h6' l6'
      clear hb
      refine ⟨_, rfl, ⟨(e12.block 0 hV0).trans Hst.out, (e12.block g vs).trans vg.out⟩, ?_⟩
      refine reframe #[true, true, true, true, true, false, true, false] { tmps := #[.slice p n cap, .slice p' n' cap', undef, undef, .pointer (some ⟨w.heap.size, 0, none⟩), .pointer (some ⟨g, 0, none⟩), .pointer (some ⟨g6, 0, none⟩), .slice p n cap, .agg (A8 K), .agg (A32 hs), .agg (A8 K), .agg (A8 (maskP K 54)), .agg (A32 (tstate ks hs (maskP K 54))), .slice p' n' cap', undef, undef, undef, undef, undef, undef, undef], defers := [] } (by kernel_rfl) (by rfl) ?_
      refine any_one (i := 5) (by kernel_rfl) ?_
      refine wpOp_call (f := 88) (args := #[.agg (A32 (tstate ks hs (maskP K 54))), .int .i64 (64 : Nat), .slice p' n' cap']) rfl rfl (by go_simp) ?_
      refine (fin_in (hTV.below e12) (tstate_len _ _ _) 64 (by omega) (hjV.below e12)).mono ?_
      rintro e y13 ⟨rfl, hb⟩
      have e13 : Below V.heap.size V y13 := e12.trans (hb.mono e12.size)
      have h6' := (hb.block g6 l6).trans h6
      have l6' := Nat.lt_of_lt_of_le l6 hb.size
      clear h6 l6
      have h6 := h6'
      have l6 := l6'
      clear h6' l6'
      clear hb
      rw [hD]
      refine ⟨_, rfl, ⟨(e13.block 0 hV0).trans Hst.out, (e13.block g vs).trans vg.out⟩, ?_⟩
      refine reframe #[true, true, true, true, true, true, true, false] { tmps := #[.slice p n cap, .slice p' n' cap', undef, undef, .pointer (some ⟨w.heap.size, 0, none⟩), .pointer (some ⟨g, 0, none⟩), .pointer (some ⟨g6, 0, none⟩), .slice p n cap, .agg (A8 K), .agg (A32 hs), .agg (A8 K), .agg (A8 (maskP K 54)), .agg (A32 (tstate ks hs (maskP K 54))), .slice p' n' cap', .agg (A8 D), undef, undef, undef, undef, undef, undef], defers := [] } (by kernel_rfl) (by rfl) ?_
      refine any_one (i := 7) (by kernel_rfl) ?_
      refine wpOp_store_W rfl rfl 25 (.tmp 6) (.tmp 14) rfl g6 (A8 D) rfl rfl 25 Z8x32 h6 (by rw [info25, A8_size, hDl]) (by rw [A8_size, hDl]; rfl) (A8_one _) ?_
      intro U hU
      have u5 := hU.below V.heap.size V h6b e13
      refine ⟨⟨(u5.block 0 hV0).trans Hst.out, (u5.block g vs).trans vg.out⟩, wpAnyH_done (by kernel_rfl) ?_ _⟩
      refine NoPanic.normal ?_
      have uu : Hid _ := hU.here
      clear hU h6
      go_wp2_with fail
      go_meet
      case rel => exact ⟨g6, rfl, uu.out, Nat.lt_of_lt_of_le vs h6b, u5⟩
  case rest =>
    obtain ⟨g6, rfl, ug, hgs, u5⟩ := hcut
    have u0 : Hid (wc.heap[0]? = _) := (u5.block 0 hV0).trans Hst.out
    have uk : Hid (wc.heap[g]? = _) := (u5.block g vs).trans vg.out
    have uz : Hid (wc.heap[w.heap.size]? = _) := (u5.block w.heap.size (by omega)).trans vz.out
    have ub : Below w.heap.size w wc := vb.trans (u5.mono (by omega))
    have hTU := hTV.below u5
    have hin := in8_row ug hDl hDb
    have hs5 : V.heap.size ≤ wc.heap.size := u5.size
    have hU0 : 0 < wc.heap.size := by omega
    have us : g < wc.heap.size := by omega
    clear ug vg vz Hst hjV hTV
    go_wp2_with fail
    refine wp_region_noPanic ?_
    refine wp_region_held (S := fun w' => w'.heap[0]? = some (.cells (A32 hs) tS fr) ∧ w'.heap[g]? = some (.cells (A8 K) 146)) follows ?_
    refine wpAnyH_take (i := 0) rfl (by kernel_rfl) (by kernel_rfl) (by kernel_rfl) (fun _ _ _ h => h) (yieldsIf_load_row rfl 143 (.global 0) rfl 0 rfl tS (A32 hs) fr (.array 8 98) (fun _ h => h.1) und40 rfl (by rw [info40, A32_size, hT.hlen])) ⟨u0.out, uk.out⟩ ?_
    refine reframe #[true, false, false, false, false, false, false] { tmps := #[.slice p n cap, .slice p' n' cap', undef, undef, .pointer (some ⟨w.heap.size, 0, none⟩), .pointer (some ⟨g, 0, none⟩), .pointer (some ⟨g6, 0, none⟩), u7, u8, u9, u10, u11, u12, u13, u14, .agg (A32 hs), u16, u17, u18, u19, u20], defers := [] } (by kernel_rfl) (by rfl) ?_
    refine wpAnyH_take (i := 1) rfl (by kernel_rfl) (by kernel_rfl) (by kernel_rfl) (fun _ _ _ h => h) (yieldsIf_load_row rfl 146 (.tmp 5) rfl g rfl 146 (A8 K) (0, 0) (.array 64 5) (fun _ h => h.2) und43 rfl (by rw [info43, A8_size, hKl])) ⟨u0.out, uk.out⟩ ?_
    refine reframe #[true, true, false, false, false, false, false] { tmps := #[.slice p n cap, .slice p' n' cap', undef, undef, .pointer (some ⟨w.heap.size, 0, none⟩), .pointer (some ⟨g, 0, none⟩), .pointer (some ⟨g6, 0, none⟩), u7, u8, u9, u10, u11, u12, u13, u14, .agg (A32 hs), .agg (A8 K), u17, u18, u19, u20], defers := [] } (by kernel_rfl) (by rfl) ?_
    refine wpAnyH_take (i := 4) (v := .slice (some ⟨g6, 0, none⟩) 32 32) rfl (by kernel_rfl) (by kernel_rfl) (by kernel_rfl) (fun _ _ _ h => h) (.inl ⟨rfl, fun W _ => by go_simp⟩) ⟨u0.out, uk.out⟩ ?_
    refine reframe #[true, true, false, false, true, false, false] { tmps := #[.slice p n cap, .slice p' n' cap', undef, undef, .pointer (some ⟨w.heap.size, 0, none⟩), .pointer (some ⟨g, 0, none⟩), .pointer (some ⟨g6, 0, none⟩), u7, u8, u9, u10, u11, u12, u13, u14, .agg (A32 hs), .agg (A8 K), u17, u18, .slice (some ⟨g6, 0, none⟩) 32 32, u20], defers := [] } (by kernel_rfl) (by rfl) ?_
    refine any_one (i := 2) (by kernel_rfl) ?_
    refine wpOp_call (f := 91) (args := #[.agg (A8 K), .int .u8 92]) rfl rfl (by go_simp) ?_
    refine (masked_p K 92 _ hKl).mono ?_
    rintro e w2 ⟨rfl, hb2⟩
    have b2 : Below wc.heap.size wc w2 := ⟨hb2.os, hb2.tape, hb2.output, hb2.size, hb2.block⟩
    clear hb2
    refine ⟨_, rfl, ⟨(b2.block 0 hU0).trans u0.out, (b2.block g us).trans uk.out⟩, ?_⟩
    refine reframe #[true, true, true, false, true, false, false] { tmps := #[.slice p n cap, .slice p' n' cap', undef, undef, .pointer (some ⟨w.heap.size, 0, none⟩), .pointer (some ⟨g, 0, none⟩), .pointer (some ⟨g6, 0, none⟩), u7, u8, u9, u10, u11, u12, u13, u14, .agg (A32 hs), .agg (A8 K), .agg (A8 (maskP K 92)), u18, .slice (some ⟨g6, 0, none⟩) 32 32, u20], defers := [] } (by kernel_rfl) (by rfl) ?_
    refine any_one (i := 3) (by kernel_rfl) ?_
    refine wpOp_call (f := 90) (args := #[.agg (A32 hs), .agg (A8 (maskP K 92))]) rfl rfl (by go_simp) ?_
    refine (take_any ks hs (maskP K 92) w2 hT.klen hT.hlen (by rw [maskP_len, hKl]) (maskP_bytes K 92) (hTU.below b2).rounds).mono ?_
    rintro e w3 ⟨rfl, hb3⟩
    have b3 : Below wc.heap.size wc w3 := b2.trans (hb3.mono b2.size)
    clear hb3
    refine ⟨_, rfl, ⟨(b3.block 0 hU0).trans u0.out, (b3.block g us).trans uk.out⟩, ?_⟩
    refine reframe #[true, true, true, true, true, false, false] { tmps := #[.slice p n cap, .slice p' n' cap', undef, undef, .pointer (some ⟨w.heap.size, 0, none⟩), .pointer (some ⟨g, 0, none⟩), .pointer (some ⟨g6, 0, none⟩), u7, u8, u9, u10, u11, u12, u13, u14, .agg (A32 hs), .agg (A8 K), .agg (A8 (maskP K 92)), .agg (A32 (tstate ks hs (maskP K 92))), .slice (some ⟨g6, 0, none⟩) 32 32, u20], defers := [] } (by kernel_rfl) (by rfl) ?_
    refine any_one (i := 5) (by kernel_rfl) ?_
    refine wpOp_call (f := 88) (args := #[.agg (A32 (tstate ks hs (maskP K 92))), .int .i64 (64 : Nat), .slice (some ⟨g6, 0, none⟩) 32 32]) rfl rfl (by go_simp) ?_
    refine (fin_in (hTU.below b3) (tstate_len _ _ _) 64 (by omega) (hin.below b3)).mono ?_
    rintro e w4 ⟨rfl, hb4⟩
    have b4 : Below wc.heap.size wc w4 := b3.trans (hb4.mono b3.size)
    clear hb4
    refine ⟨_, rfl, ⟨(b4.block 0 hU0).trans u0.out, (b4.block g us).trans uk.out⟩, ?_⟩
    have hRl := finP_len ks (tstate ks hs (maskP K 92)) (64 + 32) D
    generalize finP ks (tstate ks hs (maskP K 92)) (64 + 32) D = R at *
    refine reframe #[true, true, true, true, true, true, false] { tmps := #[.slice p n cap, .slice p' n' cap', undef, undef, .pointer (some ⟨w.heap.size, 0, none⟩), .pointer (some ⟨g, 0, none⟩), .pointer (some ⟨g6, 0, none⟩), u7, u8, u9, u10, u11, u12, u13, u14, .agg (A32 hs), .agg (A8 K), .agg (A8 (maskP K 92)), .agg (A32 (tstate ks hs (maskP K 92))), .slice (some ⟨g6, 0, none⟩) 32 32, .agg (A8 R)], defers := [] } (by kernel_rfl) (by rfl) ?_
    refine any_one (i := 6) (by kernel_rfl) ?_
    refine wpOp_store_W rfl rfl 25 (.tmp 4) (.tmp 20) rfl w.heap.size (A8 R) rfl rfl 25 Z8x32 ((b4.block w.heap.size (by omega)).trans uz.out) (by rw [info25, A8_size, hRl]) (by rw [A8_size, hRl]; rfl) (A8_one _) ?_
    intro T hT'
    refine ⟨⟨(hT'.other 0 (by have := hT.size; omega)).trans ((b4.block 0 hU0).trans u0.out), (hT'.other g (by omega)).trans ((b4.block g us).trans uk.out)⟩, wpAnyH_done (by kernel_rfl) ?_ _⟩
    refine NoPanic.normal ?_
    have tb := hT'.below _ _ (Nat.le_refl _) (ub.trans (b4.mono (by omega)))
    have th : Hid (T.heap[w.heap.size]? = _) := hT'.here
    clear hT' b4 b3 b2 hin
    go_wp2_with fail
    exact bodyPost_ret (v := .agg (A8 R)) (results_cell_row rfl _ _ w.heap.size 25 _ (0, 0) _ rfl th.out und25 rfl (by rw [info25, A8_size, hRl])) rfl ⟨by rw [HE2.out], tb⟩
theorem annalHash_any (ks hs : List Int) (w : World) (hT : Tabs ks hs w) (p : Option Addr) (n cap : Nat) (xs : List Int) (hi : In8 w p n cap xs) :
    Calls Tryd.prog 16 #[.slice p n cap] w fun e w' => e = .returned (.agg (A8 (hashP ks hs xs))) ∧ Below w.heap.size w w' := by
  have hb0 : Below w.heap.size w (w.alloc (.cells Z8x32 25)) := (Below.refl _ _).alloc (Nat.le_refl _) _
  have hl := hashP_len ks hs xs
  go_enter Tryd.func16, Tryd.ntmps16
  go_wp2_with fail
  refine (hash_any ks hs _ (hT.below hb0) p n cap xs (hi.below hb0)).mono ?_
  rintro e w1 ⟨rfl, hb1⟩
  have hz : Hid (w1.heap[w.heap.size]? = _) := (hb1.block w.heap.size (by simp)).trans (heapN w _ _ rfl)
  have hB := hb0.trans (hb1.mono (by simp))
  generalize hF : hashP ks hs xs = F at *
  have HF : Hid (hashP ks hs xs = F) := hF
  clear hF
  go_wp2_with (first
    | (with_reducible refine atStore 25 ?_
       refine wpList_store_W rfl 25 (.tmp 2) (.tmp 4) rfl w.heap.size (A8 F) rfl rfl 25 Z8x32 hz.out (by rw [info25, A8_size, hl]) (by rw [A8_size, hl]; rfl) (A8_one _) ?_
       intro U hU))
  exact bodyPost_ret (v := .agg (A8 F)) (results_cell_row rfl _ _ w.heap.size 25 _ (0, 0) _ rfl hU.here und25 rfl (by rw [info25, A8_size, hl])) rfl ⟨by rw [HF.out], hU.below _ _ (Nat.le_refl _) hB⟩
theorem tagP_len (ks hs xs ys : List Int) : (tagP ks hs xs ys).length = 32 := finP_len _ _ _ _
end Go.Proofs.YtcmjlhcpoajbkaaDoor
