import Derived.Test.YtcmjlhcpoajbkaaDoorQTag
import Derived.Deep.DeepCutAuto
import Derived.Deep.AppendLies
import Derived.StillTailTactics
import Derived.Deep.RegionLaw
namespace Go.Proofs.YtcmjlhcpoajbkaaDoor
set_option maxRecDepth 10000
open Go.RowKit
def maskP (K : List Int) (m : Int) : List Int := K.map fun b => bits .xor .u8 b m
theorem maskP_len (K : List Int) (m : Int) : (maskP K m).length = K.length := by simp [maskP]
theorem bits_u8_range (op : BinOp) (x y : Int) : 0 ≤ bits op .u8 x y ∧ bits op .u8 x y < 256 := by
  unfold bits
  have e : ∀ n, IntKind.u8.wrap n = n % 256 := fun n => by simp [IntKind.wrap, IntKind.bits, IntKind.signed]
  simp only [e]
  omega
theorem maskP_bytes (K : List Int) (m : Int) : Bytes (maskP K m) := .of fun x hx => by
  simp only [maskP, List.mem_map] at hx
  obtain ⟨b, _, rfl⟩ := hx
  exact bits_u8_range _ _ _
theorem masked_p (K : List Int) (m : Int) (w : World) (hb : K.length = 64) :
    Calls Tryd.prog 91 #[.agg (A8 K), .int .u8 m] w fun e w' => e = .returned (.agg (A8 (maskP K m))) ∧ Below w.heap.size w w' := masked_any K m w hb
def tagP (ks hs key data : List Int) : List Int :=
  finP ks (tstate ks hs (maskP (kblock ks hs key) 92)) (64 + 32) (finP ks (tstate ks hs (maskP (kblock ks hs key) 54)) (64 + data.length) data)
set_option maxHeartbeats 400000 in
theorem tag_any (ks hs : List Int) (w : World) (hT : Tabs ks hs w) (p p' : Option Addr) (n cap n' cap' : Nat) (xs ys : List Int) (hi : In8 w p n cap xs) (hj : In8 w p' n' cap' ys) :
    Calls Tryd.prog 55 #[.slice p n cap, .slice p' n' cap'] w fun e w' => e = .returned (.agg (A8 (tagP ks hs xs ys))) ∧ Below w.heap.size w w' := by
  have hb0 : Below w.heap.size w (w.alloc (.cells Z8x32 25)) := (Below.refl _ _).alloc (Nat.le_refl _) _
  have hE : tagP ks hs xs ys = finP ks (tstate ks hs (maskP (kblock ks hs xs) 92)) (64 + 32) (finP ks (tstate ks hs (maskP (kblock ks hs xs) 54)) (64 + n') ys) := by
    rw [tagP, hj.len]
  have hKl := kblock_len ks hs xs
  go_enter Tryd.func55, Tryd.ntmps55
  go_wp2_with fail
  refine (keyBlock_any ks hs _ (hT.below hb0) p n cap xs (hi.below hb0)).mono ?_
  rintro e w1 ⟨rfl, hb1⟩
  generalize kblock ks hs xs = K at *
  have HE : Hid (tagP ks hs xs ys = _) := hE
  have hz : Hid (w1.heap[w.heap.size]? = _) := (hb1.block w.heap.size (by simp)).trans (heapN w _ _ rfl)
  have hB := hb0.trans (hb1.mono (by simp))
  have hz1 : w.heap.size < w1.heap.size := by have := hb1.size; simp at this; omega
  clear hE hb1
  go_wp2_with (first
    | (with_reducible refine atStore 146 ?_
       refine wpList_store_W rfl 146 (.tmp 5) (.tmp 8) rfl w1.heap.size (A8 K) rfl rfl 146 Z8x64 ?_ (by rw [info43, A8_size, hKl]) (by rw [A8_size, hKl]; rfl) (A8_one _) ?_
       · exact heapN w1 _ _ rfl
       intro V hV
       refine hideGoal ?_))
  have vz : Hid (V.heap[w.heap.size]? = _) := ((hV.other w.heap.size (by omega)).trans (heapO w1 _ _ (by omega))).trans hz.out
  have vb := hV.below _ _ (by omega) (hB.alloc (by omega) _)
  have vg : Hid (V.heap[w1.heap.size]? = _) := hV.here
  have vs : w1.heap.size < V.heap.size := by rw [hV.size]; simp
  clear hV hz hB
  generalize w1.heap.size = g at *
  have hTV := hT.below vb
  have hjV := hj.below vb
  obtain ⟨tS, fr, hst⟩ := hTV.start
  have Hst : Hid (V.heap[0]? = _) := hst
  clear hst
  refine openGoal ?_
  go_wp2_with fail
  have hV0 : 0 < V.heap.size := by omega
  obtain ⟨D, hD⟩ : ∃ D, finP ks (tstate ks hs (maskP K 54)) (64 + n') ys = D := ⟨_, rfl⟩
  have hDl : D.length = 32 := by rw [← hD]; exact finP_len _ _ _ _
  have hDb : Bytes D := by rw [← hD]; exact finP_bytes _ _ _ _
  have hE2 := HE.out
  rw [hD] at hE2
  have HE2 : Hid (tagP ks hs xs ys = _) := hE2
  have HD : Hid _ := hD
  clear hE2 HE hD
  go_cut [6] (fun s6 wc => ∃ g6, s6 = .pointer (some ⟨g6, 0, none⟩) ∧ wc.heap[g6]? = some (.cells (A8 D) 25) ∧ g < g6 ∧ Below V.heap.size V wc)
  case first =>
    have hD := HD.out
    refine wp_region_noPanic ?_
    refine wp_region_held (S := fun w' => w'.heap[0]? = some (.cells (A32 hs) tS fr) ∧ w'.heap[g]? = some (.cells (A8 K) 146)) follows ?_
    refine wpAnyH_take (i := 0) rfl (by kernel_rfl) (by kernel_rfl) (by kernel_rfl) (fun _ _ _ h => h) (yieldsIf_load_row rfl 143 (.global 0) rfl 0 rfl tS (A32 hs) fr (.array 8 98) (fun _ h => h.1) und40 rfl (by rw [info40, A32_size, hT.hlen])) ⟨Hst.out, vg.out⟩ ?_
    refine reframe #[true, false, false, false, false, false, false, false] { tmps := #[.slice p n cap, .slice p' n' cap', undef, undef, .pointer (some ⟨w.heap.size, 0, none⟩), .pointer (some ⟨g, 0, none⟩), undef, .slice p n cap, .agg (A8 K), .agg (A32 hs), undef, undef, undef, undef, undef, undef, undef, undef, undef, undef, undef], defers := [] } (by kernel_rfl) (by rfl) ?_
    refine wpAnyH_take (i := 1) rfl (by kernel_rfl) (by kernel_rfl) (by kernel_rfl) (fun _ _ _ h => h) (yieldsIf_load_row rfl 146 (.tmp 5) rfl g rfl 146 (A8 K) (0, 0) (.array 64 5) (fun _ h => h.2) und43 rfl (by rw [info43, A8_size, hKl])) ⟨Hst.out, vg.out⟩ ?_
    refine reframe #[true, true, false, false, false, false, false, false] { tmps := #[.slice p n cap, .slice p' n' cap', undef, undef, .pointer (some ⟨w.heap.size, 0, none⟩), .pointer (some ⟨g, 0, none⟩), undef, .slice p n cap, .agg (A8 K), .agg (A32 hs), .agg (A8 K), undef, undef, undef, undef, undef, undef, undef, undef, undef, undef], defers := [] } (by kernel_rfl) (by rfl) ?_
    refine wpAnyH_take (i := 4) rfl (by kernel_rfl) (by kernel_rfl) (by kernel_rfl) (fun _ _ _ h => h) (yieldsIf_move rfl (.tmp 1) rfl) ⟨Hst.out, vg.out⟩ ?_
    refine reframe #[true, true, false, false, true, false, false, false] { tmps := #[.slice p n cap, .slice p' n' cap', undef, undef, .pointer (some ⟨w.heap.size, 0, none⟩), .pointer (some ⟨g, 0, none⟩), undef, .slice p n cap, .agg (A8 K), .agg (A32 hs), .agg (A8 K), undef, undef, .slice p' n' cap', undef, undef, undef, undef, undef, undef, undef], defers := [] } (by kernel_rfl) (by rfl) ?_
    have eV : Below V.heap.size V V.drew := (Below.refl _ _).drew
    refine any_two (i := 2) (j := 6) (by kernel_rfl) ?_ ?_
    · skip
      refine wpOp_call (f := 91) (args := #[.agg (A8 K), .int .u8 54]) rfl rfl (by go_simp) ?_
      refine (masked_p K 54 _ hKl).mono ?_
      rintro e y1 ⟨rfl, hb⟩
      have hb' : Below V.heap.size V y1 := ⟨hb.os, hb.tape, hb.output, hb.size, hb.block⟩
      have e1 : Below V.heap.size V y1 := hb'
      clear hb hb'
      refine ⟨_, rfl, ⟨(e1.block 0 hV0).trans Hst.out, (e1.block g vs).trans vg.out⟩, ?_⟩
      refine reframe #[true, true, true, false, true, false, false, false] { tmps := #[.slice p n cap, .slice p' n' cap', undef, undef, .pointer (some ⟨w.heap.size, 0, none⟩), .pointer (some ⟨g, 0, none⟩), undef, .slice p n cap, .agg (A8 K), .agg (A32 hs), .agg (A8 K), .agg (A8 (maskP K 54)), undef, .slice p' n' cap', undef, undef, undef, undef, undef, undef, undef], defers := [] } (by kernel_rfl) (by rfl) ?_
      refine any_two (i := 3) (j := 6) (by kernel_rfl) ?_ ?_
      · skip
        refine wpOp_call (f := 90) (args := #[.agg (A32 hs), .agg (A8 (maskP K 54))]) rfl rfl (by go_simp) ?_
        refine (take_any ks hs (maskP K 54) _ hT.klen hT.hlen (by rw [maskP_len, hKl]) (maskP_bytes K 54) (hTV.below e1).rounds).mono ?_
        rintro e y2 ⟨rfl, hb⟩
        have e2 : Below V.heap.size V y2 := e1.trans (hb.mono e1.size)
        clear hb
        refine ⟨_, rfl, ⟨(e2.block 0 hV0).trans Hst.out, (e2.block g vs).trans vg.out⟩, ?_⟩
        refine reframe #[true, true, true, true, true, false, false, false] { tmps := #[.slice p n cap, .slice p' n' cap', undef, undef, .pointer (some ⟨w.heap.size, 0, none⟩), .pointer (some ⟨g, 0, none⟩), undef, .slice p n cap, .agg (A8 K), .agg (A32 hs), .agg (A8 K), .agg (A8 (maskP K 54)), .agg (A32 (tstate ks hs (maskP K 54))), .slice p' n' cap', undef, undef, undef, undef, undef, undef, undef], defers := [] } (by kernel_rfl) (by rfl) ?_
        refine any_two (i := 5) (j := 6) (by kernel_rfl) ?_ ?_
        · skip
          refine wpOp_call (f := 88) (args := #[.agg (A32 (tstate ks hs (maskP K 54))), .int .i64 (64 : Nat), .slice p' n' cap']) rfl rfl (by go_simp) ?_
          refine (fin_in (hTV.below e2) (tstate_len _ _ _) 64 (by omega) (hjV.below e2)).mono ?_
          rintro e y3 ⟨rfl, hb⟩
          have e3 : Below V.heap.size V y3 := e2.trans (hb.mono e2.size)
          clear hb
          rw [hD]
          refine ⟨_, rfl, ⟨(e3.block 0 hV0).trans Hst.out, (e3.block g vs).trans vg.out⟩, ?_⟩
          refine reframe #[true, true, true, true, true, true, false, false] { tmps := #[.slice p n cap, .slice p' n' cap', undef, undef, .pointer (some ⟨w.heap.size, 0, none⟩), .pointer (some ⟨g, 0, none⟩), undef, .slice p n cap, .agg (A8 K), .agg (A32 hs), .agg (A8 K), .agg (A8 (maskP K 54)), .agg (A32 (tstate ks hs (maskP K 54))), .slice p' n' cap', .agg (A8 D), undef, undef, undef, undef, undef, undef], defers := [] } (by kernel_rfl) (by rfl) ?_
          refine any_one (i := 6) (by kernel_rfl) ?_
          have h6b : V.heap.size ≤ y3.heap.size := e3.size
          have c4 : Below V.heap.size V (y3.alloc (.cells Z8x32 25)) := e3.alloc h6b _
          refine wpOp_val (v := .pointer (some ⟨y3.heap.size, 0, none⟩)) (w' := y3.alloc (.cells Z8x32 25)) rfl rfl ?_ ⟨⟨(c4.block 0 hV0).trans Hst.out, (c4.block g vs).trans vg.out⟩, ?_⟩
          · go_simp
            rfl
          have h6 : (y3.alloc (.cells Z8x32 25)).heap[y3.heap.size]? = some (.cells Z8x32 25) := heapN y3 _ _ rfl
          obtain ⟨x4, hx4⟩ : ∃ x, x = y3.alloc (.cells Z8x32 25) := ⟨_, rfl⟩
          obtain ⟨g6, hg6⟩ : ∃ x, x = y3.heap.size := ⟨_, rfl⟩
          have l6 : y3.heap.size < (y3.alloc (.cells Z8x32 25)).heap.size := by simp
          rw [← hx4] at c4 h6 l6 ⊢
          rw [← hg6] at h6 h6b l6 ⊢
          clear hx4 hg6
          refine reframe #[true, true, true, true, true, true, true, false] { tmps := #[.slice p n cap, .slice p' n' cap', undef, undef, .pointer (some ⟨w.heap.size, 0, none⟩), .pointer (some ⟨g, 0, none⟩), .pointer (some ⟨g6, 0, none⟩), .slice p n cap, .agg (A8 K), .agg (A32 hs), .agg (A8 K), .agg (A8 (maskP K 54)), .agg (A32 (tstate ks hs (maskP K 54))), .slice p' n' cap', .agg (A8 D), undef, undef, undef, undef, undef, undef], defers := [] } (by kernel_rfl) (by rfl) ?_
          refine any_one (i := 7) (by kernel_rfl) ?_
          refine wpOp_store_W rfl rfl 25 (.tmp 6) (.tmp 14) rfl g6 (A8 D) rfl rfl 25 Z8x32 h6 (by rw [info25, A8_size, hDl]) (by rw [A8_size, hDl]; rfl) (A8_one _) ?_
          intro U hU
          have u5 := hU.below V.heap.size V h6b c4
          refine ⟨⟨(u5.block 0 hV0).trans Hst.out, (u5.block g vs).trans vg.out⟩, wpAnyH_done (by kernel_rfl) ?_ _⟩
          refine NoPanic.normal ?_
          have uu : Hid _ := hU.here
          clear hU h6
          go_wp2_with fail
          go_meet
          case rel => exact ⟨g6, rfl, uu.out, Nat.lt_of_lt_of_le vs h6b, u5⟩
        · skip
          have h6b : V.heap.size ≤ y2.heap.size := e2.size
          have c5 : Below V.heap.size V (y2.alloc (.cells Z8x32 25)) := e2.alloc h6b _
          refine wpOp_val (v := .pointer (some ⟨y2.heap.size, 0, none⟩)) (w' := y2.alloc (.cells Z8x32 25)) rfl rfl ?_ ⟨⟨(c5.block 0 hV0).trans Hst.out, (c5.block g vs).trans vg.out⟩, ?_⟩
          · go_simp
            rfl
          have h6 : (y2.alloc (.cells Z8x32 25)).heap[y2.heap.size]? = some (.cells Z8x32 25) := heapN y2 _ _ rfl
          obtain ⟨x5, hx5⟩ : ∃ x, x = y2.alloc (.cells Z8x32 25) := ⟨_, rfl⟩
          obtain ⟨g6, hg6⟩ : ∃ x, x = y2.heap.size := ⟨_, rfl⟩
          have l6 : y2.heap.size < (y2.alloc (.cells Z8x32 25)).heap.size := by simp
          rw [← hx5] at c5 h6 l6 ⊢
          rw [← hg6] at h6 h6b l6 ⊢
          clear hx5 hg6
          refine reframe #[true, true, true, true, true, false, true, false] { tmps := #[.slice p n cap, .slice p' n' cap', undef, undef, .pointer (some ⟨w.heap.size, 0, none⟩), .pointer (some ⟨g, 0, none⟩), .pointer (some ⟨g6, 0, none⟩), .slice p n cap, .agg (A8 K), .agg (A32 hs), .agg (A8 K), .agg (A8 (maskP K 54)), .agg (A32 (tstate ks hs (maskP K 54))), .slice p' n' cap', undef, undef, undef, undef, undef, undef, undef], defers := [] } (by kernel_rfl) (by rfl) ?_
          refine any_one (i := 5) (by kernel_rfl) ?_
          refine wpOp_call (f := 88) (args := #[.agg (A32 (tstate ks hs (maskP K 54))), .int .i64 (64 : Nat), .slice p' n' cap']) rfl rfl (by go_simp) ?_
          refine (fin_in (hTV.below c5) (tstate_len _ _ _) 64 (by omega) (hjV.below c5)).mono ?_
          rintro e y6 ⟨rfl, hb⟩
          have e6 : Below V.heap.size V y6 := c5.trans (hb.mono c5.size)
          have h6' := (hb.block g6 l6).trans h6
          have l6' := Nat.lt_of_lt_of_le l6 hb.size
          clear h6 l6
          have h6 := h6'
          have l6 := l6'
          clear h6' l6'
          clear hb
          rw [hD]
          refine ⟨_, rfl, ⟨(e6.block 0 hV0).trans Hst.out, (e6.block g vs).trans vg.out⟩, ?_⟩
          refine reframe #[true, true, true, true, true, true, true, false] { tmps := #[.slice p n cap, .slice p' n' cap', undef, undef, .pointer (some ⟨w.heap.size, 0, none⟩), .pointer (some ⟨g, 0, none⟩), .pointer (some ⟨g6, 0, none⟩), .slice p n cap, .agg (A8 K), .agg (A32 hs), .agg (A8 K), .agg (A8 (maskP K 54)), .agg (A32 (tstate ks hs (maskP K 54))), .slice p' n' cap', .agg (A8 D), undef, undef, undef, undef, undef, undef], defers := [] } (by kernel_rfl) (by rfl) ?_
          refine any_one (i := 7) (by kernel_rfl) ?_
          refine wpOp_store_W rfl rfl 25 (.tmp 6) (.tmp 14) rfl g6 (A8 D) rfl rfl 25 Z8x32 h6 (by rw [info25, A8_size, hDl]) (by rw [A8_size, hDl]; rfl) (A8_one _) ?_
          intro U hU
          have u5 := hU.below V.heap.size V h6b e6
          refine ⟨⟨(u5.block 0 hV0).trans Hst.out, (u5.block g vs).trans vg.out⟩, wpAnyH_done (by kernel_rfl) ?_ _⟩
          refine NoPanic.normal ?_
          have uu : Hid _ := hU.here
          clear hU h6
          go_wp2_with fail
          go_meet
          case rel => exact ⟨g6, rfl, uu.out, Nat.lt_of_lt_of_le vs h6b, u5⟩
      · skip
        have h6b : V.heap.size ≤ y1.heap.size := e1.size
        have c7 : Below V.heap.size V (y1.alloc (.cells Z8x32 25)) := e1.alloc h6b _
        refine wpOp_val (v := .pointer (some ⟨y1.heap.size, 0, none⟩)) (w' := y1.alloc (.cells Z8x32 25)) rfl rfl ?_ ⟨⟨(c7.block 0 hV0).trans Hst.out, (c7.block g vs).trans vg.out⟩, ?_⟩
        · go_simp
          rfl
        have h6 : (y1.alloc (.cells Z8x32 25)).heap[y1.heap.size]? = some (.cells Z8x32 25) := heapN y1 _ _ rfl
        obtain ⟨x7, hx7⟩ : ∃ x, x = y1.alloc (.cells Z8x32 25) := ⟨_, rfl⟩
        obtain ⟨g6, hg6⟩ : ∃ x, x = y1.heap.size := ⟨_, rfl⟩
        have l6 : y1.heap.size < (y1.alloc (.cells Z8x32 25)).heap.size := by simp
        rw [← hx7] at c7 h6 l6 ⊢
        rw [← hg6] at h6 h6b l6 ⊢
        clear hx7 hg6
        refine reframe #[true, true, true, false, true, false, true, false] { tmps := #[.slice p n cap, .slice p' n' cap', undef, undef, .pointer (some ⟨w.heap.size, 0, none⟩), .pointer (some ⟨g, 0, none⟩), .pointer (some ⟨g6, 0, none⟩), .slice p n cap, .agg (A8 K), .agg (A32 hs), .agg (A8 K), .agg (A8 (maskP K 54)), undef, .slice p' n' cap', undef, undef, undef, undef, undef, undef, undef], defers := [] } (by kernel_rfl) (by rfl) ?_
        refine any_one (i := 3) (by kernel_rfl) ?_
        refine wpOp_call (f := 90) (args := #[.agg (A32 hs), .agg (A8 (maskP K 54))]) rfl rfl (by go_simp) ?_
        refine (take_any ks hs (maskP K 54) _ hT.klen hT.hlen (by rw [maskP_len, hKl]) (maskP_bytes K 54) (hTV.below c7).rounds).mono ?_
        rintro e y8 ⟨rfl, hb⟩
        have e8 : Below V.heap.size V y8 := c7.trans (hb.mono c7.size)
        have h6' := (hb.block g6 l6).trans h6
        have l6' := Nat.lt_of_lt_of_le l6 hb.size
        clear h6 l6
        have h6 := h6'
        have l6 := l6'
        clear h6' l6'
        clear hb
        refine ⟨_, rfl, ⟨(e8.block 0 hV0).trans Hst.out, (e8.block g vs).trans vg.out⟩, ?_⟩
        refine reframe #[true, true, true, true, true, false, true, false] { tmps := #[.slice p n cap, .slice p' n' cap', undef, undef, .pointer (some ⟨w.heap.size, 0, none⟩), .pointer (some ⟨g, 0, none⟩), .pointer (some ⟨g6, 0, none⟩), .slice p n cap, .agg (A8 K), .agg (A32 hs), .agg (A8 K), .agg (A8 (maskP K 54)), .agg (A32 (tstate ks hs (maskP K 54))), .slice p' n' cap', undef, undef, undef, undef, undef, undef, undef], defers := [] } (by kernel_rfl) (by rfl) ?_
        refine any_one (i := 5) (by kernel_rfl) ?_
        refine wpOp_call (f := 88) (args := #[.agg (A32 (tstate ks hs (maskP K 54))), .int .i64 (64 : Nat), .slice p' n' cap']) rfl rfl (by go_simp) ?_
        refine (fin_in (hTV.below e8) (tstate_len _ _ _) 64 (by omega) (hjV.below e8)).mono ?_
        rintro e y9 ⟨rfl, hb⟩
        have e9 : Below V.heap.size V y9 := e8.trans (hb.mono e8.size)
        have h6' := (hb.block g6 l6).trans h6
        have l6' := Nat.lt_of_lt_of_le l6 hb.size
        clear h6 l6
        have h6 := h6'
        have l6 := l6'
        clear h6' l6'
        clear hb
        rw [hD]
        refine ⟨_, rfl, ⟨(e9.block 0 hV0).trans Hst.out, (e9.block g vs).trans vg.out⟩, ?_⟩
        refine reframe #[true, true, true, true, true, true, true, false] { tmps := #[.slice p n cap, .slice p' n' cap', undef, undef, .pointer (some ⟨w.heap.size, 0, none⟩), .pointer (some ⟨g, 0, none⟩), .pointer (some ⟨g6, 0, none⟩), .slice p n cap, .agg (A8 K), .agg (A32 hs), .agg (A8 K), .agg (A8 (maskP K 54)), .agg (A32 (tstate ks hs (maskP K 54))), .slice p' n' cap', .agg (A8 D), undef, undef, undef, undef, undef, undef], defers := [] } (by kernel_rfl) (by rfl) ?_
        refine any_one (i := 7) (by kernel_rfl) ?_
        refine wpOp_store_W rfl rfl 25 (.tmp 6) (.tmp 14) rfl g6 (A8 D) rfl rfl 25 Z8x32 h6 (by rw [info25, A8_size, hDl]) (by rw [A8_size, hDl]; rfl) (A8_one _) ?_
        intro U hU
        have u5 := hU.below V.heap.size V h6b e9
        refine ⟨⟨(u5.block 0 hV0).trans Hst.out, (u5.block g vs).trans vg.out⟩, wpAnyH_done (by kernel_rfl) ?_ _⟩
        refine NoPanic.normal ?_
        have uu : Hid _ := hU.here
        clear hU h6
        go_wp2_with fail
        go_meet
        case rel => exact ⟨g6, rfl, uu.out, Nat.lt_of_lt_of_le vs h6b, u5⟩
    · skip
      have h6b : V.heap.size ≤ V.drew.heap.size := eV.size
      have c10 : Below V.heap.size V (V.drew.alloc (.cells Z8x32 25)) := eV.alloc h6b _
      refine wpOp_val (v := .pointer (some ⟨V.drew.heap.size, 0, none⟩)) (w' := V.drew.alloc (.cells Z8x32 25)) rfl rfl ?_ ⟨⟨(c10.block 0 hV0).trans Hst.out, (c10.block g vs).trans vg.out⟩, ?_⟩
      · go_simp
        rfl
      have h6 : (V.drew.alloc (.cells Z8x32 25)).heap[V.drew.heap.size]? = some (.cells Z8x32 25) := heapN V.drew _ _ rfl
      obtain ⟨x10, hx10⟩ : ∃ x, x = V.drew.alloc (.cells Z8x32 25) := ⟨_, rfl⟩
      obtain ⟨g6, hg6⟩ : ∃ x, x = V.drew.heap.size := ⟨_, rfl⟩
      have l6 : V.drew.heap.size < (V.drew.alloc (.cells Z8x32 25)).heap.size := by simp
      rw [← hx10] at c10 h6 l6 ⊢
      rw [← hg6] at h6 h6b l6 ⊢
      clear hx10 hg6
      refine reframe #[true, true, false, false, true, false, true, false] { tmps := #[.slice p n cap, .slice p' n' cap', undef, undef, .pointer (some ⟨w.heap.size, 0, none⟩), .pointer (some ⟨g, 0, none⟩), .pointer (some ⟨g6, 0, none⟩), .slice p n cap, .agg (A8 K), .agg (A32 hs), .agg (A8 K), undef, undef, .slice p' n' cap', undef, undef, undef, undef, undef, undef, undef], defers := [] } (by kernel_rfl) (by rfl) ?_
      refine any_one (i := 2) (by kernel_rfl) ?_
      refine wpOp_call (f := 91) (args := #[.agg (A8 K), .int .u8 54]) rfl rfl (by go_simp) ?_
      refine (masked_p K 54 _ hKl).mono ?_
      rintro e y11 ⟨rfl, hb⟩
      have e11 : Below V.heap.size V y11 := c10.trans (hb.mono c10.size)
      have h6' := (hb.block g6 l6).trans h6
      have l6' := Nat.lt_of_lt_of_le l6 hb.size
      clear h6 l6
      have h6 := h6'
      have l6 := l6'
      clear h6' l6'
      clear hb
      refine ⟨_, rfl, ⟨(e11.block 0 hV0).trans Hst.out, (e11.block g vs).trans vg.out⟩, ?_⟩
      refine reframe #[true, true, true, false, true, false, true, false] { tmps := #[.slice p n cap, .slice p' n' cap', undef, undef, .pointer (some ⟨w.heap.size, 0, none⟩), .pointer (some ⟨g, 0, none⟩), .pointer (some ⟨g6, 0, none⟩), .slice p n cap, .agg (A8 K), .agg (A32 hs), .agg (A8 K), .agg (A8 (maskP K 54)), undef, .slice p' n' cap', undef, undef, undef, undef, undef, undef, undef], defers := [] } (by kernel_rfl) (by rfl) ?_
      refine any_one (i := 3) (by kernel_rfl) ?_
      refine wpOp_call (f := 90) (args := #[.agg (A32 hs), .agg (A8 (maskP K 54))]) rfl rfl (by go_simp) ?_
      refine (take_any ks hs (maskP K 54) _ hT.klen hT.hlen (by rw [maskP_len, hKl]) (maskP_bytes K 54) (hTV.below e11).rounds).mono ?_
      rintro e y12 ⟨rfl, hb⟩
      have e12 : Below V.heap.size V y12 := e11.trans (hb.mono e11.size)
      have h6' := (hb.block g6 l6).trans h6
      have l6' := Nat.lt_of_lt_of_le l6 hb.size
      clear h6 l6
      have h6 := h6'
      have l6 := l6'
      clear h6' l6'
      clear hb
      refine ⟨_, rfl, ⟨(e12.block 0 hV0).trans Hst.out, (e12.block g vs).trans vg.out⟩, ?_⟩
      refine reframe #[true, true, true, true, true, false, true, false] { tmps := #[.slice p n cap, .slice p' n' cap', undef, undef, .pointer (some ⟨w.heap.size, 0, none⟩), .pointer (some ⟨g, 0, none⟩), .pointer (some ⟨g6, 0, none⟩), .slice p n cap, .agg (A8 K), .agg (A32 hs), .agg (A8 K), .agg (A8 (maskP K 54)), .agg (A32 (tstate ks hs (maskP K 54))), .slice p' n' cap', undef, undef, undef, undef, undef, undef, undef], defers := [] } (by kernel_rfl) (by rfl) ?_
      refine any_one (i := 5) (by kernel_rfl) ?_
      refine wpOp_call (f := 88) (args := #[.agg (A32 (tstate ks hs (maskP K 54))), .int .i64 (64 : Nat), .slice p' n' cap']) rfl rfl (by go_simp) ?_
      refine (fin_in (hTV.below e12) (tstate_len _ _ _) 64 (by omega) (hjV.below e12)).mono ?_
      rintro e y13 ⟨rfl, hb⟩
      have e13 : Below V.heap.size V y13 := e12.trans (hb.mono e12.size)
      have h6' := (hb.block g6 l6).trans h6
      have l6' := Nat.lt_of_lt_of_le l6 hb.size
      clear h6 l6
      have h6 := h6'
      have l6 := l6'
      clear h6' l6'
      clear hb
      rw [hD]
      refine ⟨_, rfl, ⟨(e13.block 0 hV0).trans Hst.out, (e13.block g vs).trans vg.out⟩, ?_⟩
      refine reframe #[true, true, true, true, true, true, true, false] { tmps := #[.slice p n cap, .slice p' n' cap', undef, undef, .pointer (some ⟨w.heap.size, 0, none⟩), .pointer (some ⟨g, 0, none⟩), .pointer (some ⟨g6, 0, none⟩), .slice p n cap, .agg (A8 K), .agg (A32 hs), .agg (A8 K), .agg (A8 (maskP K 54)), .agg (A32 (tstate ks hs (maskP K 54))), .slice p' n' cap', .agg (A8 D), undef, undef, undef, undef, undef, undef], defers := [] } (by kernel_rfl) (by rfl) ?_
      refine any_one (i := 7) (by kernel_rfl) ?_
      refine wpOp_store_W rfl rfl 25 (.tmp 6) (.tmp 14) rfl g6 (A8 D) rfl rfl 25 Z8x32 h6 (by rw [info25, A8_size, hDl]) (by rw [A8_size, hDl]; rfl) (A8_one _) ?_
      intro U hU
      have u5 := hU.below V.heap.size V h6b e13
      refine ⟨⟨(u5.block 0 hV0).trans Hst.out, (u5.block g vs).trans vg.out⟩, wpAnyH_done (by kernel_rfl) ?_ _⟩
      refine NoPanic.normal ?_
      have uu : Hid _ := hU.here
      clear hU h6
      go_wp2_with fail
      go_meet
      case rel => exact ⟨g6, rfl, uu.out, Nat.lt_of_lt_of_le vs h6b, u5⟩
  case rest =>
    obtain ⟨g6, rfl, ug, hgs, u5⟩ := hcut
    have u0 : Hid (wc.heap[0]? = _) := (u5.block 0 hV0).trans Hst.out
    have uk : Hid (wc.heap[g]? = _) := (u5.block g vs).trans vg.out
    have uz : Hid (wc.heap[w.heap.size]? = _) := (u5.block w.heap.size (by omega)).trans vz.out
    have ub : Below w.heap.size w wc := vb.trans (u5.mono (by omega))
    have hTU := hTV.below u5
    have hin := in8_row ug hDl hDb
    have hs5 : V.heap.size ≤ wc.heap.size := u5.size
    have hU0 : 0 < wc.heap.size := by omega
    have us : g < wc.heap.size := by omega
    clear ug vg vz Hst hjV hTV
    go_wp2_with fail
    refine wp_region_noPanic ?_
    refine wp_region_held (S := fun w' => w'.heap[0]? = some (.cells (A32 hs) tS fr) ∧ w'.heap[g]? = some (.cells (A8 K) 146)) follows ?_
    refine wpAnyH_take (i := 0) rfl (by kernel_rfl) (by kernel_rfl) (by kernel_rfl) (fun _ _ _ h => h) (yieldsIf_load_row rfl 143 (.global 0) rfl 0 rfl tS (A32 hs) fr (.array 8 98) (fun _ h => h.1) und40 rfl (by rw [info40, A32_size, hT.hlen])) ⟨u0.out, uk.out⟩ ?_
    refine reframe #[true, false, false, false, false, false, false] { tmps := #[.slice p n cap, .slice p' n' cap', undef, undef, .pointer (some ⟨w.heap.size, 0, none⟩), .pointer (some ⟨g, 0, none⟩), .pointer (some ⟨g6, 0, none⟩), u7, u8, u9, u10, u11, u12, u13, u14, .agg (A32 hs), u16, u17, u18, u19, u20], defers := [] } (by kernel_rfl) (by rfl) ?_
    refine wpAnyH_take (i := 1) rfl (by kernel_rfl) (by kernel_rfl) (by kernel_rfl) (fun _ _ _ h => h) (yieldsIf_load_row rfl 146 (.tmp 5) rfl g rfl 146 (A8 K) (0, 0) (.array 64 5) (fun _ h => h.2) und43 rfl (by rw [info43, A8_size, hKl])) ⟨u0.out, uk.out⟩ ?_
    refine reframe #[true, true, false, false, false, false, false] { tmps := #[.slice p n cap, .slice p' n' cap', undef, undef, .pointer (some ⟨w.heap.size, 0, none⟩), .pointer (some ⟨g, 0, none⟩), .pointer (some ⟨g6, 0, none⟩), u7, u8, u9, u10, u11, u12, u13, u14, .agg (A32 hs), .agg (A8 K), u17, u18, u19, u20], defers := [] } (by kernel_rfl) (by rfl) ?_
    refine wpAnyH_take (i := 4) (v := .slice (some ⟨g6, 0, none⟩) 32 32) rfl (by kernel_rfl) (by kernel_rfl) (by kernel_rfl) (fun _ _ _ h => h) (.inl ⟨rfl, fun W _ => by go_simp⟩) ⟨u0.out, uk.out⟩ ?_
    refine reframe #[true, true, false, false, true, false, false] { tmps := #[.slice p n cap, .slice p' n' cap', undef, undef, .pointer (some ⟨w.heap.size, 0, none⟩), .pointer (some ⟨g, 0, none⟩), .pointer (some ⟨g6, 0, none⟩), u7, u8, u9, u10, u11, u12, u13, u14, .agg (A32 hs), .agg (A8 K), u17, u18, .slice (some ⟨g6, 0, none⟩) 32 32, u20], defers := [] } (by kernel_rfl) (by rfl) ?_
    refine any_one (i := 2) (by kernel_rfl) ?_
    refine wpOp_call (f := 91) (args := #[.agg (A8 K), .int .u8 92]) rfl rfl (by go_simp) ?_
    refine (masked_p K 92 _ hKl).mono ?_
    rintro e w2 ⟨rfl, hb2⟩
    have b2 : Below wc.heap.size wc w2 := ⟨hb2.os, hb2.tape, hb2.output, hb2.size, hb2.block⟩
    clear hb2
    refine ⟨_, rfl, ⟨(b2.block 0 hU0).trans u0.out, (b2.block g us).trans uk.out⟩, ?_⟩
    refine reframe #[true, true, true, false, true, false, false] { tmps := #[.slice p n cap, .slice p' n' cap', undef, undef, .pointer (some ⟨w.heap.size, 0, none⟩), .pointer (some ⟨g, 0, none⟩), .pointer (some ⟨g6, 0, none⟩), u7, u8, u9, u10, u11, u12, u13, u14, .agg (A32 hs), .agg (A8 K), .agg (A8 (maskP K 92)), u18, .slice (some ⟨g6, 0, none⟩) 32 32, u20], defers := [] } (by kernel_rfl) (by rfl) ?_
    refine any_one (i := 3) (by kernel_rfl) ?_
    refine wpOp_call (f := 90) (args := #[.agg (A32 hs), .agg (A8 (maskP K 92))]) rfl rfl (by go_simp) ?_
    refine (take_any ks hs (maskP K 92) w2 hT.klen hT.hlen (by rw [maskP_len, hKl]) (maskP_bytes K 92) (hTU.below b2).rounds).mono ?_
    rintro e w3 ⟨rfl, hb3⟩
    have b3 : Below wc.heap.size wc w3 := b2.trans (hb3.mono b2.size)
    clear hb3
    refine ⟨_, rfl, ⟨(b3.block 0 hU0).trans u0.out, (b3.block g us).trans uk.out⟩, ?_⟩
    refine reframe #[true, true, true, true, true, false, false] { tmps := #[.slice p n cap, .slice p' n' cap', undef, undef, .pointer (some ⟨w.heap.size, 0, none⟩), .pointer (some ⟨g, 0, none⟩), .pointer (some ⟨g6, 0, none⟩), u7, u8, u9, u10, u11, u12, u13, u14, .agg (A32 hs), .agg (A8 K), .agg (A8 (maskP K 92)), .agg (A32 (tstate ks hs (maskP K 92))), .slice (some ⟨g6, 0, none⟩) 32 32, u20], defers := [] } (by kernel_rfl) (by rfl) ?_
    refine any_one (i := 5) (by kernel_rfl) ?_
    refine wpOp_call (f := 88) (args := #[.agg (A32 (tstate ks hs (maskP K 92))), .int .i64 (64 : Nat), .slice (some ⟨g6, 0, none⟩) 32 32]) rfl rfl (by go_simp) ?_
    refine (fin_in (hTU.below b3) (tstate_len _ _ _) 64 (by omega) (hin.below b3)).mono ?_
    rintro e w4 ⟨rfl, hb4⟩
    have b4 : Below wc.heap.size wc w4 := b3.trans (hb4.mono b3.size)
    clear hb4
    refine ⟨_, rfl, ⟨(b4.block 0 hU0).trans u0.out, (b4.block g us).trans uk.out⟩, ?_⟩
    have hRl := finP_len ks (tstate ks hs (maskP K 92)) (64 + 32) D
    generalize finP ks (tstate ks hs (maskP K 92)) (64 + 32) D = R at *
    refine reframe #[true, true, true, true, true, true, false] { tmps := #[.slice p n cap, .slice p' n' cap', undef, undef, .pointer (some ⟨w.heap.size, 0, none⟩), .pointer (some ⟨g, 0, none⟩), .pointer (some ⟨g6, 0, none⟩), u7, u8, u9, u10, u11, u12, u13, u14, .agg (A32 hs), .agg (A8 K), .agg (A8 (maskP K 92)), .agg (A32 (tstate ks hs (maskP K 92))), .slice (some ⟨g6, 0, none⟩) 32 32, .agg (A8 R)], defers := [] } (by kernel_rfl) (by rfl) ?_
    refine any_one (i := 6) (by kernel_rfl) ?_
    refine wpOp_store_W rfl rfl 25 (.tmp 4) (.tmp 20) rfl w.heap.size (A8 R) rfl rfl 25 Z8x32 ((b4.block w.heap.size (by omega)).trans uz.out) (by rw [info25, A8_size, hRl]) (by rw [A8_size, hRl]; rfl) (A8_one _) ?_
    intro T hT'
    refine ⟨⟨(hT'.other 0 (by have := hT.size; omega)).trans ((b4.block 0 hU0).trans u0.out), (hT'.other g (by omega)).trans ((b4.block g us).trans uk.out)⟩, wpAnyH_done (by kernel_rfl) ?_ _⟩
    refine NoPanic.normal ?_
    have tb := hT'.below _ _ (Nat.le_refl _) (ub.trans (b4.mono (by omega)))
    have th : Hid (T.heap[w.heap.size]? = _) := hT'.here
    clear hT' b4 b3 b2 hin
    go_wp2_with fail
    exact bodyPost_ret (v := .agg (A8 R)) (results_cell_row rfl _ _ w.heap.size 25 _ (0, 0) _ rfl th.out und25 rfl (by rw [info25, A8_size, hRl])) rfl ⟨by rw [HE2.out], tb⟩
theorem annalHash_any (ks hs : List Int) (w : World) (hT : Tabs ks hs w) (p : Option Addr) (n cap : Nat) (xs : List Int) (hi : In8 w p n cap xs) :
    Calls Tryd.prog 16 #[.slice p n cap] w fun e w' => e = .returned (.agg (A8 (hashP ks hs xs))) ∧ Below w.heap.size w w' := by
  have hb0 : Below w.heap.size w (w.alloc (.cells Z8x32 25)) := (Below.refl _ _).alloc (Nat.le_refl _) _
  have hl := hashP_len ks hs xs
  go_enter Tryd.func16, Tryd.ntmps16
  go_wp2_with fail
  refine (hash_any ks hs _ (hT.below hb0) p n cap xs (hi.below hb0)).mono ?_
  rintro e w1 ⟨rfl, hb1⟩
  have hz : Hid (w1.heap[w.heap.size]? = _) := (hb1.block w.heap.size (by simp)).trans (heapN w _ _ rfl)
  have hB := hb0.trans (hb1.mono (by simp))
  generalize hF : hashP ks hs xs = F at *
  have HF : Hid (hashP ks hs xs = F) := hF
  clear hF
  go_wp2_with (first
    | (with_reducible refine atStore 25 ?_
       refine wpList_store_W rfl 25 (.tmp 2) (.tmp 4) rfl w.heap.size (A8 F) rfl rfl 25 Z8x32 hz.out (by rw [info25, A8_size, hl]) (by rw [A8_size, hl]; rfl) (A8_one _) ?_
       intro U hU))
  exact bodyPost_ret (v := .agg (A8 F)) (results_cell_row rfl _ _ w.heap.size 25 _ (0, 0) _ rfl hU.here und25 rfl (by rw [info25, A8_size, hl])) rfl ⟨by rw [HF.out], hU.below _ _ (Nat.le_refl _) hB⟩
theorem tagP_len (ks hs xs ys : List Int) : (tagP ks hs xs ys).length = 32 := finP_len _ _ _ _
end Go.Proofs.YtcmjlhcpoajbkaaDoor
namespace Go.Proofs.YtcmjlhcpoajbkaaDoor
set_option maxRecDepth 10000
open Go.RowKit
/-- A text's bytes as numbers. -/
def toI (l : List UInt8) : List Int := l.map fun b => (b.toNat : Int)
theorem toI_len (l : List UInt8) : (toI l).length = l.length := by simp [toI]
theorem toI_bytes (l : List UInt8) : Bytes (toI l) := .of fun x hx => by
  simp only [toI, List.mem_map] at hx
  obtain ⟨b, _, rfl⟩ := hx
  have := b.toNat_lt
  omega
theorem toI_get (l : List UInt8) (i : Nat) (h : i < l.length) : (toI l).getD i 0 = ((l[i]).toNat : Int) := by
  simp [toI, h]
/-- The constants. -/
def KS : List Int := [1116352408, 1899447441, 3049323471, 3921009573, 961987163, 1508970993, 2453635748, 2870763221, 3624381080, 310598401, 607225278, 1426881987, 1925078388, 2162078206, 2614888103, 3248222580, 3835390401, 4022224774, 264347078, 604807628, 770255983, 1249150122, 1555081692, 1996064986, 2554220882, 2821834349, 2952996808, 3210313671, 3336571891, 3584528711, 113926993, 338241895, 666307205, 773529912, 1294757372, 1396182291, 1695183700, 1986661051, 2177026350, 2456956037, 2730485921, 2820302411, 3259730800, 3345764771, 3516065817, 3600352804, 4094571909, 275423344, 430227734, 506948616, 659060556, 883997877, 958139571, 1322822218, 1537002063, 1747873779, 1955562222, 2024104815, 2227730452, 2361852424, 2428436474, 2756734187, 3204031479, 3329325298]
def HS : List Int := [1779033703, 3144134277, 1013904242, 2773480762, 1359893119, 2600822924, 528734635, 1541459225]
/-- Numbers as a text's bytes. -/
def toU (l : List Int) : List UInt8 := l.map fun n => UInt8.ofNat n.toNat
theorem toU_len (l : List Int) : (toU l).length = l.length := by simp [toU]
theorem toI_toU (l : List Int) (h : Bytes l) : toI (toU l) = l := by
  simp only [toI, toU, List.map_map]
  conv => rhs; rw [← List.map_id l]
  apply List.map_congr_left
  intro x hx
  have := h.mem x hx
  simp only [Function.comp, UInt8.toNat_ofNat', id]
  omega
theorem toI_append (a b : List UInt8) : toI (a ++ b) = toI a ++ toI b := by simp [toI]
theorem byte_at (l : List UInt8) (i : Nat) (_h : i < l.length) (h' : i < (ByteArray.mk l.toArray).size) : ((ByteArray.mk l.toArray)[i]'h').toNat = (l[i]).toNat := rfl
set_option maxHeartbeats 400000 in
theorem word_any (l : List UInt8) (at_ : Nat) (w : World) (h : at_ + 4 ≤ l.length) (hl : l.length ≤ 140737488356000) :
    Calls Tryd.prog 58 #[.string ⟨l.toArray⟩, .int .i64 at_] w fun e w' => e = .returned (.int .u32 (wacc (fun j => (toI l).getD (at_ + j) 0) 4)) ∧ w' = w := by
  go_enter Tryd.func58, Tryd.ntmps58
  go_wp2_with fail
  go_loop [5, 6] (fun v i => ∃ k : Nat, k ≤ 4 ∧ i = .int .i64 k ∧ v = .int .u32 (wacc (fun j => (toI l).getD (at_ + j) 0) k)) (fun _ i => 4 - (intOf i).toNat)
  case atStart => exact ⟨0, by omega, rfl, rfl⟩
  case round =>
    obtain ⟨k, hk, rfl, rfl⟩ := hrel
    by_cases hlt : k < 4
    · have HS : Hid (wacc (fun j => (toI l).getD (at_ + j) 0) (k + 1) = bits .or .u32 (wacc (fun j => (toI l).getD (at_ + j) 0) k * 256 % 4294967296) ((toI l).getD (at_ + k) 0)) := rfl
      have hb := toI_get l (at_ + k) (by omega)
      have HB : Hid _ := hb
      have hlt2 : at_ + k < l.length := by omega
      clear hb
      generalize wacc (fun j => (toI l).getD (at_ + j) 0) k = y at *
      go_wp2_with fail
      go_round
      case rel =>
        refine ⟨k + 1, by omega, by go_num, ?_⟩
        rw [HS.out, HB.out]
        have hb := byte_at l (at_ + k) hlt2 (by assumption)
        have := (l[at_ + k]).toNat_lt
        have e1 : ((l[at_ + k]).toNat : Int) % 4294967296 = ((l[at_ + k]).toNat : Int) := Int.emod_eq_of_lt (by omega) (by omega)
        rw [hb, e1]
      case measure => simp [intOf]; omega
    · go_wp2_with fail
      go_ret
      have e : k = 4 := by omega
      exact ⟨ret_int (by rw [e]), rfl⟩
theorem conv_row (D : List Int) (w : World) (g n cap : Nat) (t : TypeId) (fr : Nat × Nat) (hn : D.length = n) (h : w.heap[g]? = some (.cells (A8 D) t fr)) :
    (convert 22 9 (.slice (some ⟨g, 0, none⟩) n cap)).run Tryd.prog w = .ok (.string ⟨(toU D).toArray⟩) w :=
  run_convert_bytes_arg (P := Tryd.prog) (w := w) 22 5 Tryd.underlying22 Tryd.underlying5 g 0 n cap D hn (fun j hj => by
    rw [cell_of_row _ _ _ _ _ _ h, Nat.zero_add, A8_get _ _ (by omega)]) 9 Tryd.underlying9
set_option maxHeartbeats 400000 in
theorem text_any (D : List Int) (w : World) (hD : D.length = 32) :
    Calls Tryd.prog 60 #[.agg (A8 D)] w fun e w' => e = .returned (.string ⟨(toU D).toArray⟩) ∧ Below w.heap.size w w' := by
  have hc := conv_row D (w.alloc (.cells (A8 D) 25)) w.heap.size 32 32 25 (0, 0) hD (heapN w _ _ rfl)
  go_enter Tryd.func60, Tryd.ntmps60
  go_wp2_with fail
  go_ret
  exact ⟨rfl, (Below.refl _ _).alloc (Nat.le_refl _) _⟩
theorem keys_any (w : World) :
    Calls Tryd.prog 56 #[] w fun e w' => e = .returned (.slice (some ⟨w.heap.size, 0, none⟩) 64 64) ∧ w' = w.alloc (.cells (A32 KS) 98) := by
  go_enter Tryd.func56, Tryd.ntmps56
  go_wp2_with fail
  go_ret
  exact ⟨rfl, rfl⟩
end Go.Proofs.YtcmjlhcpoajbkaaDoor
namespace Go.Proofs.YtcmjlhcpoajbkaaDoor
set_option maxRecDepth 10000
open Go.RowKit
def padz (n : Nat) : Nat := (119 - n % 64) % 64
/-- The text, a bit, z noughts. -/
def padA (l : List UInt8) (z : Nat) : List UInt8 := l ++ 128 :: List.replicate z 0
def lenB (n j : Nat) : UInt8 := UInt8.ofNat (n * 8 / 2 ^ (56 - 8 * j) % 256)
def lenU (n i : Nat) : List UInt8 := (List.range i).map (lenB n)
def padB (l : List UInt8) (i : Nat) : List UInt8 := padA l (padz l.length) ++ lenU l.length i
theorem padA_len (l : List UInt8) (z : Nat) : (padA l z).length = l.length + 1 + z := by simp [padA]; omega
theorem padA_step (l : List UInt8) (z : Nat) : padA l z ++ [0] = padA l (z + 1) := by
  simp [padA, List.replicate_succ']
theorem lenU_step (n i : Nat) : lenU n (i + 1) = lenU n i ++ [lenB n i] := by simp [lenU, List.range_succ]
theorem padB_step (l : List UInt8) (i : Nat) : padB l (i + 1) = padB l i ++ [lenB l.length i] := by
  simp [padB, lenU_step]
theorem padB_len (l : List UInt8) (i : Nat) : (padB l i).length = l.length + 1 + padz l.length + i := by
  simp [padB, padA_len, lenU]
theorem conv_one (b : Int) (c : UInt8) (w : World) (h : UInt8.ofNat b.toNat = c) :
    (convert 22 9 (.slice (some ⟨w.heap.size, 0, none⟩) 1 1)).run Tryd.prog (w.alloc (.cells #[.int .u8 b] 5)) = .ok (.string ⟨#[c]⟩) (w.alloc (.cells #[.int .u8 b] 5)) := by
  have := conv_row [b] (w.alloc (.cells #[.int .u8 b] 5)) w.heap.size 1 1 5 (0, 0) rfl (heapN w _ _ rfl)
  rw [this, ← h]; rfl
set_option maxHeartbeats 400000 in
theorem padded_any (l : List UInt8) (w : World) (hl : l.length ≤ 140737488355500) :
    Calls Tryd.prog 57 #[.string ⟨l.toArray⟩] w fun e w' => e = .returned (.string ⟨(padB l 8).toArray⟩) ∧ Below w.heap.size w w' := by
  have hpz : padz l.length < 64 := Nat.mod_lt _ (by omega)
  go_enter Tryd.func57, Tryd.ntmps57
  go_wp2_with fail
  go_loop [4] (fun v => ∃ (z : Nat) (t : ByteArray), z ≤ padz l.length ∧ v = .string t ∧ t = ⟨(padA l z).toArray⟩) (fun v => match v with | .string t => l.length + 65 - t.size | _ => 0)
  case atStart => exact ⟨0, _, Nat.zero_le _, rfl, rfl⟩
  case round =>
    obtain ⟨z, t, hz, rfl, ht⟩ := hrel
    have hsz : t.size = l.length + 1 + z := by rw [ht]; exact padA_len l z
    have Ht : Hid (t = ⟨(padA l z).toArray⟩) := ht
    have Hsz : Hid (t.size = l.length + 1 + z) := hsz
    have hm : t.size ≤ 140737488355600 := by omega
    clear ht hsz
    by_cases hlt : z < padz l.length
    · have hne : ((t.size : Int) % 64 != 56) = true := by
        rw [bne_iff_ne, Hsz.out]; unfold padz at hlt; omega
      go_wp2_with fail
      refine ⟨⟨z + 1, _, by omega, rfl, ?_⟩, ?_⟩
      · rw [Ht.out, ← padA_step]; exact ByteArray.mk_append_mk (padA l z) [0]
      · show l.length + 65 - (t ++ ⟨#[0]⟩).size < l.length + 65 - t.size
        have e : (t ++ ByteArray.mk #[0]).size = t.size + 1 := by rw [ByteArray.size_append]; rfl
        have := Hsz.out
        omega
    · have hz' : z = padz l.length := by omega
      have hne : ((t.size : Int) % 64 != 56) = false := by
        rw [bne_eq_false_iff_eq, Hsz.out, hz']; unfold padz; omega
      have Ht2 : Hid (t = ⟨(padB l 0).toArray⟩) := by
        have := Ht.out
        rw [hz'] at this
        rw [this]; simp [padB, lenU, Hid]
      clear hz' hz hlt Ht
      go_wp2_with fail
      clear hne
      go_loopw [4, 5] (fun v k wr => ∃ (j : Nat) (t : ByteArray), j ≤ 8 ∧ k = .int .i64 (56 - 8 * (j : Int)) ∧ v = .string t ∧ t = ⟨(padB l j).toArray⟩ ∧ Below w.heap.size w wr) (fun _ k _ => (64 + intOf k).toNat)
      case atStart => exact ⟨0, _, by omega, rfl, rfl, Ht2.out, Below.refl _ _⟩
      case round =>
        clear Ht2 Hsz hm
        obtain ⟨j, t, hj, rfl, rfl, ht, hbel⟩ := hrel
        have hsz : t.size ≤ 140737488355700 := by
          have e : t.size = (padB l j).length := by rw [ht]; rfl
          rw [e, padB_len]; omega
        have Ht : Hid (t = _) := ht
        clear ht
        by_cases hlt : j < 8
        · have hge : (0 : Int) ≤ 56 - 8 * (j : Int) := by omega
          have hcv := conv_one ((l.length : Int) * 8 / 2 ^ (56 - 8 * j) % 256) (lenB l.length j) wr (by
            have e : ((l.length : Int) * 8 / 2 ^ (56 - 8 * j) % 256) = ((l.length * 8 / 2 ^ (56 - 8 * j) % 256 : Nat) : Int) := by
              simp only [Int.natCast_emod, Int.natCast_ediv, Int.natCast_mul, Int.natCast_pow]; rfl
            rw [e, Int.toNat_natCast]; rfl)
          have HC : Hid _ := hcv
          go_wp2_with fail
          go_roundw
          case rel =>
            refine ⟨j + 1, _, by omega, by go_num, rfl, ?_, hbel.alloc hbel.size _⟩
            rw [Ht.out, padB_step]; exact ByteArray.mk_append_mk (padB l j) [lenB l.length j]
          case measure => simp [intOf]; omega
        · have hge : 56 < 8 * (j : Int) := by omega
          go_wp2_with fail
          go_ret
          have e : j = 8 := by omega
          have ht := Ht.out
          rw [e] at ht
          refine ⟨?_, hbel⟩
          exact congrArg (fun x => Ending.returned (Value.string x)) ht
end Go.Proofs.YtcmjlhcpoajbkaaDoor
namespace Go.Proofs.YtcmjlhcpoajbkaaDoor
set_option maxRecDepth 10000
open Go.RowKit
theorem und32 : Tryd.prog.underlying 99 = some (.slice 98) := Tryd.underlying99
/-- What append leaves of a row of words. -/
structure Grows (B : Nat) (w w' : World) : Prop where
  size : w.heap.size ≤ w'.heap.size
  below : ∀ w0, Below B w0 w → Below B w0 w'
theorem info31 : ∃ i, Tryd.prog.info? 98 = some i ∧ i.zero = some (.int .u32 0) ∧ i.size = 1 ∧ i.bytes = 4 := ⟨_, rfl, rfl, rfl, rfl⟩
theorem wpList_app1 {ops : Array Oper} {rest : List Oper} {o : Oper} {a : Act} {Q : Exit → Act → World → Prop} {w : World} (hgd : o.guard = none) (s x : Operand)
    (ho : o.op = .call { callee := .builtin .append, args := #[s, x], argTypes := #[99, 99] }) (B : Nat) (v : Value) (l : List Int) (n : Nat) (hs : a.eval s = v)
    (hown : w.ownsRow B 98 1 v n (l.map (Value.int .u32))) (b : Nat) (y : Int) (hx : a.eval x = .slice (some ⟨b, 0, none⟩) 1 1) (hb : w.heap[b]? = some (.cells #[.int .u32 y] 98)) (hn : n ≤ 64) (hB : B ≤ w.heap.size)
    (h : ∀ v' w', w'.ownsRow B 98 1 v' (n + 1) ((l ++ [y]).map (Value.int .u32)) → Grows B w w' → wpList Tryd.prog ops Q rest (a.put o.dst v') w') : wpList Tryd.prog ops Q (o :: rest) a w := by
  obtain ⟨i, hi, hz, hsz, hby⟩ := info31
  refine wpList_append_lies w hgd s x 99 ho B 98 i (.int .u32 0) 1 4 und32 hi hz hsz hby rfl (by omega) v n _ hs hown ⟨b, 0, none⟩ 1 1 [.int .u32 y] hx rfl (World.news_of_block hb) (by intro u hu; simp only [List.mem_singleton] at hu; subst hu; rfl) (by omega) (by unfold maxLen; omega) (by omega) hB _ rfl ?_
  intro g cap w' h1 h2 h3 h4
  refine h _ w' (by simpa using h1) ⟨h2.size, fun w0 hb => hb.grown h2 hB (fun k hk => ?_)⟩
  rcases hown.2 with ⟨rfl, _⟩ | ⟨g', c', cur, rfl, hg', _⟩
  · cases hk
  · simp only [Value.ownBlock, Option.some.injEq] at hk; omega
theorem step_app1 {ops : Array Oper} {o : Oper} {a : Act} {K : Act → World → Prop} {Q : Exit → Act → World → Prop} {E : Prop} {w : World} (hgd : o.guard = none) (s x : Operand)
    (ho : o.op = .call { callee := .builtin .append, args := #[s, x], argTypes := #[99, 99] }) (B : Nat) (v : Value) (l : List Int) (n : Nat) (hs : a.eval s = v)
    (hown : w.ownsRow B 98 1 v n (l.map (Value.int .u32))) (b : Nat) (y : Int) (hx : a.eval x = .slice (some ⟨b, 0, none⟩) 1 1) (hb : w.heap[b]? = some (.cells #[.int .u32 y] 98)) (hn : n ≤ 64) (hB : B ≤ w.heap.size)
    (h : ∀ v' w', w'.ownsRow B 98 1 v' (n + 1) ((l ++ [y]).map (Value.int .u32)) → Grows B w w' → K (a.put o.dst v') w') :
    if Region.wanted o (yielded ops a.tmps) = true then Oper.wp Tryd.prog o a w K Q else E := by
  obtain ⟨i, hi, hz, hsz, hby⟩ := info31
  refine step_append_lies w hgd s x 99 ho B 98 i (.int .u32 0) 1 4 und32 hi hz hsz hby rfl (by omega) v n _ hs hown ⟨b, 0, none⟩ 1 1 [.int .u32 y] hx rfl (World.news_of_block hb) (by intro u hu; simp only [List.mem_singleton] at hu; subst hu; rfl) (by omega) (by unfold maxLen; omega) (by omega) hB _ rfl ?_
  intro g cap w' h1 h2 h3 h4
  refine h _ w' (by simpa using h1) ⟨h2.size, fun w0 hb => hb.grown h2 hB (fun k hk => ?_)⟩
  rcases hown.2 with ⟨rfl, _⟩ | ⟨g', c', cur, rfl, hg', _⟩
  · cases hk
  · simp only [Value.ownBlock, Option.some.injEq] at hk; omega
theorem owns_cell {w : World} {B : Nat} {v : Value} {l : List Int} {n : Nat} (h : w.ownsRow B 98 1 v n (l.map (Value.int .u32))) (hn : 0 < n) :
    ∃ g cap, v = .slice (some ⟨g, 0, none⟩) n cap ∧ B ≤ g ∧ g < w.heap.size ∧ n ≤ cap ∧ cap ≤ maxLen ∧ l.length = n ∧ ∀ j, j < n → w.cell? ⟨g, j, none⟩ = some (.int .u32 (l.getD j 0)) := by
  obtain ⟨hl, ⟨_, h0⟩ | ⟨g, cap, cur, rfl, hg, hh, hc, hm, hs, ht⟩⟩ := h
  · omega
  · have hl' : l.length = n := by simpa using hl
    refine ⟨g, cap, rfl, hg, row_lt hh, hc, hm, hl', fun j hj => ?_⟩
    rw [cell_of_row _ _ _ _ _ _ hh]
    have e := congrArg (fun z : List Value => z[j]?) ht
    simp only [Nat.mul_one, List.getElem?_take, if_pos hj, List.getElem?_map] at e
    rw [← Array.getElem?_toList, e]
    rw [List.getD_eq_getElem?_getD, List.getElem?_eq_getElem (by omega)]
    rfl
theorem set8 (st : List Int) (a b c d e f g h : Int) (hl : st.length = 8) : (((((((st.set 0 a).set 1 b).set 2 c).set 3 d).set 4 e).set 5 f).set 6 g).set 7 h = [a, b, c, d, e, f, g, h] := by
  match st, hl with
  | [_, _, _, _, _, _, _, _], _ => rfl
theorem stored1 (w : World) (g i : Nat) (l : List Int) (v : Int) (h : w.heap[g]? = some (.cells (A32 l) 98)) : (w.setCell ⟨g, i, none⟩ (.int .u32 v)).heap[g]? = some (.cells (A32 (l.set i v)) 98) := by
  rw [heap_setCell_same w g i _ _ _ h, A32_set]
theorem list8 (l : List Int) (h : l.length = 8) : ∃ x0 x1 x2 x3 x4 x5 x6 x7, l = [x0, x1, x2, x3, x4, x5, x6, x7] := by
  match l, h with
  | [x0, x1, x2, x3, x4, x5, x6, x7], _ => exact ⟨x0, x1, x2, x3, x4, x5, x6, x7, rfl⟩
theorem wpList_store_cell {ops : Array Oper} {rest : List Oper} {o : Oper} {a : Act} {Q : Exit → Act → World → Prop} {w : World} (hgd : o.guard = none) (x y : Operand) (ho : o.op = .store 98 x y)
    (g i : Nat) (l : List Int) (v : Int) (hx : a.eval x = .pointer (some ⟨g, i, none⟩)) (hy : a.eval y = .int .u32 v) (hg : w.heap[g]? = some (.cells (A32 l) 98)) (hi : i < l.length)
    (h : ∀ W, Stored w W g (A32 (l.set i v)) 98 → wpList Tryd.prog ops Q rest (a.put o.dst undef) W) : wpList Tryd.prog ops Q (o :: rest) a w := by
  refine wpList_plain hgd fun K hK => ?_
  have hc : w.cell? ⟨g, i, none⟩ = some (.int .u32 (l.getD i 0)) := by rw [cell_of_row _ _ _ _ _ _ hg, A32_get _ _ hi]
  have hf := frozen_of_row w g i _ _ hg
  unfold Oper.wp execOp
  simp only [ho, hx, hy]
  go_simp
  exact hK _ _ (h _ ⟨stored1 w g i l v hg, fun k hk => heap_setCell_other _ _ _ _ hk, by simp, fun _ _ hB hb => hb.setCell hB _⟩)
theorem wsum_nest (a b c d : Int) : (((a + b) % 4294967296 + c) % 4294967296 + d) % 4294967296 = wsum a b c d := by
  unfold wsum; omega
theorem word_at (l : List UInt8) (z : Int) (k : Nat) (hz : z = (k : Int)) (w : World) (h : k + 4 ≤ l.length) (hl : l.length ≤ 140737488356000) :
    Calls Tryd.prog 58 #[.string ⟨l.toArray⟩, .int .i64 z] w fun e w' => e = .returned (.int .u32 (wacc (fun j => (toI l).getD (k + j) 0) 4)) ∧ w' = w := by
  subst hz; exact word_any l k w h hl
theorem owns_alloc {w : World} {B : Nat} {e : TypeId} {n s : Nat} {v : Value} {xs : List Value} (h : w.ownsRow B e s v n xs) (o : Obj) : (w.alloc o).ownsRow B e s v n xs := by
  obtain ⟨h1, h2 | ⟨g, cap, cur, hv, hg, hh, r⟩⟩ := h
  · exact ⟨h1, .inl h2⟩
  · exact ⟨h1, .inr ⟨g, cap, cur, hv, hg, (heapO w o g (row_lt hh)).trans hh, r⟩⟩
theorem owns_heap {w w' : World} {B : Nat} {e : TypeId} {n s : Nat} {v : Value} {xs : List Value} (h : w.ownsRow B e s v n xs) (hh : w'.heap = w.heap) : w'.ownsRow B e s v n xs := by
  unfold World.ownsRow at *
  rw [hh]; exact h
theorem word_block (T : List UInt8) (q k : Nat) (hk : k < 16) (bs : List Int) (hb : bs = ((toI T).drop (64 * q)).take 64) :
    wacc (fun j => (toI T).getD (64 * q + 4 * k + j) 0) 4 = wordOf bs k := by
  have e : ∀ j, j < 4 → (toI T).getD (64 * q + 4 * k + j) 0 = bs.getD (4 * k + j) 0 := fun j hj => by
    rw [hb]
    simp only [List.getD_eq_getElem?_getD, List.getElem?_take, List.getElem?_drop]
    rw [if_pos (by omega)]
    congr 2; omega
  simp only [wordOf, wacc]
  rw [e 0 (by omega), e 1 (by omega), e 2 (by omega), e 3 (by omega)]
end Go.Proofs.YtcmjlhcpoajbkaaDoor
