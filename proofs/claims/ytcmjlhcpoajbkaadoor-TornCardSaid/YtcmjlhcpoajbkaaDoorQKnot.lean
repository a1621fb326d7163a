import Derived.Test.YtcmjlhcpoajbkaaDoorQTag
import Derived.Deep.DeepCutAuto
import Derived.Deep.AppendLies
import Derived.StillTailTactics
import Derived.Deep.RegionLaw
import Derived.Stop.BytesEq
import Derived.Test.YtcmjlhcpoajbkaaDoorTie
import Derived.Test.YtcmjlhcpoajbkaaDoorCards
import Derived.ProofKit
import Derived.OpenShut
import Derived.ShutString
import Derived.ChangeOld
import Derived.LaidMore
import Derived.SizedLaws
import Derived.Stop.Joined
import Derived.Stop.LaidErr
import Derived.Lib.LaidTab
import Derived.SevenTiedAt
import Derived.Lib.AppendZerosOnto
import Derived.Laws.OwnMore
namespace Go.Proofs.YtcmjlhcpoajbkaaDoor
set_option maxRecDepth 10000
open Go.RowKit
def maskP (K : List Int) (m : Int) : List Int := K.map fun b => bits .xor .u8 b m
theorem maskP_len (K : List Int) (m : Int) : (maskP K m).length = K.length := by simp [maskP]
theorem bits_u8_range (op : BinOp) (x y : Int) : 0 ≤ bits op .u8 x y ∧ bits op .u8 x y < 256 := by
  unfold bits
  have e : ∀ n, IntKind.u8.wrap n = n % 256 := fun n => by simp [IntKind.wrap, IntKind.bits, IntKind.signed]
  simp only [e]
  omega
theorem maskP_bytes (K : List Int) (m : Int) : Bytes (maskP K m) := .of fun x hx => by
  simp only [maskP, List.mem_map] at hx
  obtain ⟨b, _, rfl⟩ := hx
  exact bits_u8_range _ _ _
theorem masked_p (K : List Int) (m : Int) (w : World) (hb : K.length = 64) :
    Calls Tryd.prog 91 #[.agg (A8 K), .int .u8 m] w fun e w' => e = .returned (.agg (A8 (maskP K m))) ∧ Below w.heap.size w w' := masked_any K m w hb
def tagP (ks hs key data : List Int) : List Int :=
  finP ks (tstate ks hs (maskP (kblock ks hs key) 92)) (64 + 32) (finP ks (tstate ks hs (maskP (kblock ks hs key) 54)) (64 + data.length) data)
set_option maxHeartbeats 400000 in
theorem tag_any (ks hs : List Int) (w : World) (hT : Tabs ks hs w) (p p' : Option Addr) (n cap n' cap' : Nat) (xs ys : List Int) (hi : In8 w p n cap xs) (hj : In8 w p' n' cap' ys) :
    Calls Tryd.prog 55 #[.slice p n cap, .slice p' n' cap'] w fun e w' => e = .returned (.agg (A8 (tagP ks hs xs ys))) ∧ Below w.heap.size w w' := by
  have hb0 : Below w.heap.size w (w.alloc (.cells Z8x32 25)) := (Below.refl _ _).alloc (Nat.le_refl _) _
  have hE : tagP ks hs xs ys = finP ks (tstate ks hs (maskP (kblock ks hs xs) 92)) (64 + 32) (finP ks (tstate ks hs (maskP (kblock ks hs xs) 54)) (64 + n') ys) := by
    rw [tagP, hj.len]
  have hKl := kblock_len ks hs xs
  go_enter Tryd.func55, Tryd.ntmps55
  go_wp2_with fail
  refine (keyBlock_any ks hs _ (hT.below hb0) p n cap xs (hi.below hb0)).mono ?_
  rintro e w1 ⟨rfl, hb1⟩
  generalize kblock ks hs xs = K at *
  have HE : Hid (tagP ks hs xs ys = _) := hE
  have hz : Hid (w1.heap[w.heap.size]? = _) := (hb1.block w.heap.size (by simp)).trans (heapN w _ _ rfl)
  have hB := hb0.trans (hb1.mono (by simp))
  have hz1 : w.heap.size < w1.heap.size := by have := hb1.size; simp at this; omega
  clear hE hb1
  go_wp2_with (first
    | (with_reducible refine atStore 146 ?_
       refine wpList_store_W rfl 146 (.tmp 5) (.tmp 8) rfl w1.heap.size (A8 K) rfl rfl 146 Z8x64 ?_ (by rw [info43, A8_size, hKl]) (by rw [A8_size, hKl]; rfl) (A8_one _) ?_
       · exact heapN w1 _ _ rfl
       intro V hV
       refine hideGoal ?_))
  have vz : Hid (V.heap[w.heap.size]? = _) := ((hV.other w.heap.size (by omega)).trans (heapO w1 _ _ (by omega))).trans hz.out
  have vb := hV.below _ _ (by omega) (hB.alloc (by omega) _)
  have vg : Hid (V.heap[w1.heap.size]? = _) := hV.here
  have vs : w1.heap.size < V.heap.size := by rw [hV.size]; simp
  clear hV hz hB
  generalize w1.heap.size = g at *
  have hTV := hT.below vb
  have hjV := hj.below vb
  obtain ⟨tS, fr, hst⟩ := hTV.start
  have Hst : Hid (V.heap[0]? = _) := hst
  clear hst
  refine openGoal ?_
  go_wp2_with fail
  have hV0 : 0 < V.heap.size := by omega
  obtain ⟨D, hD⟩ : ∃ D, finP ks (tstate ks hs (maskP K 54)) (64 + n') ys = D := ⟨_, rfl⟩
  have hDl : D.length = 32 := by rw [← hD]; exact finP_len _ _ _ _
  have hDb : Bytes D := by rw [← hD]; exact finP_bytes _ _ _ _
  have hE2 := HE.out
  rw [hD] at hE2
  have HE2 : Hid (tagP ks hs xs ys = _) := hE2
  have HD : Hid _ := hD
  clear hE2 HE hD
  go_cut [6] (fun s6 wc => ∃ g6, s6 = .pointer (some ⟨g6, 0, none⟩) ∧ wc.heap[g6]? = some (.cells (A8 D) 25) ∧ g < g6 ∧ Below V.heap.size V wc)
  case first =>
    have hD := HD.out
    refine wp_region_noPanic ?_
    refine wp_region_held (S := fun w' => w'.heap[0]? = some (.cells (A32 hs) tS fr) ∧ w'.heap[g]? = some (.cells (A8 K) 146)) follows ?_
    refine wpAnyH_take (i := 0) rfl (by kernel_rfl) (by kernel_rfl) (by kernel_rfl) (fun _ _ _ h => h) (yieldsIf_load_row rfl 143 (.global 0) rfl 0 rfl tS (A32 hs) fr (.array 8 98) (fun _ h => h.1) und40 rfl (by rw [info40, A32_size, hT.hlen])) ⟨Hst.out, vg.out⟩ ?_
    refine reframe #[true, false, false, false, false, false, false, false] { tmps := #[.slice p n cap, .slice p' n' cap', undef, undef, .pointer (some ⟨w.heap.size, 0, none⟩), .pointer (some ⟨g, 0, none⟩), undef, .slice p n cap, .agg (A8 K), .agg (A32 hs), undef, undef, undef, undef, undef, undef, undef, undef, undef, undef, undef], defers := [] } (by kernel_rfl) (by rfl) ?_
    refine wpAnyH_take (i := 1) rfl (by kernel_rfl) (by kernel_rfl) (by kernel_rfl) (fun _ _ _ h => h) (yieldsIf_load_row rfl 146 (.tmp 5) rfl g rfl 146 (A8 K) (0, 0) (.array 64 5) (fun _ h => h.2) und43 rfl (by rw [info43, A8_size, hKl])) ⟨Hst.out, vg.out⟩ ?_
    refine reframe #[true, true, false, false, false, false, false, false] { tmps := #[.slice p n cap, .slice p' n' cap', undef, undef, .pointer (some ⟨w.heap.size, 0, none⟩), .pointer (some ⟨g, 0, none⟩), undef, .slice p n cap, .agg (A8 K), .agg (A32 hs), .agg (A8 K), undef, undef, undef, undef, undef, undef, undef, undef, undef, undef], defers := [] } (by kernel_rfl) (by rfl) ?_
    refine wpAnyH_take (i := 4) rfl (by kernel_rfl) (by kernel_rfl) (by kernel_rfl) (fun _ _ _ h => h) (yieldsIf_move rfl (.tmp 1) rfl) ⟨Hst.out, vg.out⟩ ?_
    refine reframe #[true, true, false, false, true, false, false, false] { tmps := #[.slice p n cap, .slice p' n' cap', undef, undef, .pointer (some ⟨w.heap.size, 0, none⟩), .pointer (some ⟨g, 0, none⟩), undef, .slice p n cap, .agg (A8 K), .agg (A32 hs), .agg (A8 K), undef, undef, .slice p' n' cap', undef, undef, undef, undef, undef, undef, undef], defers := [] } (by kernel_rfl) (by rfl) ?_
    have eV : Below V.heap.size V V.drew := (Below.refl _ _).drew
    refine any_two (i := 2) (j := 6) (by kernel_rfl) ?_ ?_
    · skip
      refine wpOp_call (f := 91) (args := #[.agg (A8 K), .int .u8 54]) rfl rfl (by go_simp) ?_
      refine (masked_p K 54 _ hKl).mono ?_
      rintro e y1 ⟨rfl, hb⟩
      have hb' : Below V.heap.size V y1 := ⟨hb.os, hb.tape, hb.output, hb.size, hb.block⟩
      have e1 : Below V.heap.size V y1 := hb'
      clear hb hb'
      refine ⟨_, rfl, ⟨(e1.block 0 hV0).trans Hst.out, (e1.block g vs).trans vg.out⟩, ?_⟩
      refine reframe #[true, true, true, false, true, false, false, false] { tmps := #[.slice p n cap, .slice p' n' cap', undef, undef, .pointer (some ⟨w.heap.size, 0, none⟩), .pointer (some ⟨g, 0, none⟩), undef, .slice p n cap, .agg (A8 K), .agg (A32 hs), .agg (A8 K), .agg (A8 (maskP K 54)), undef, .slice p' n' cap', undef, undef, undef, undef, undef, undef, undef], defers := [] } (by kernel_rfl) (by rfl) ?_
      refine any_two (i := 3) (j := 6) (by kernel_rfl) ?_ ?_
      · skip
        refine wpOp_call (f := 90) (args := #[.agg (A32 hs), .agg (A8 (maskP K 54))]) rfl rfl (by go_simp) ?_
        refine (take_any ks hs (maskP K 54) _ hT.klen hT.hlen (by rw [maskP_len, hKl]) (maskP_bytes K 54) (hTV.below e1).rounds).mono ?_
        rintro e y2 ⟨rfl, hb⟩
        have e2 : Below V.heap.size V y2 := e1.trans (hb.mono e1.size)
        clear hb
        refine ⟨_, rfl, ⟨(e2.block 0 hV0).trans Hst.out, (e2.block g vs).trans vg.out⟩, ?_⟩
        refine reframe #[true, true, true, true, true, false, false, false] { tmps := #[.slice p n cap, .slice p' n' cap', undef, undef, .pointer (some ⟨w.heap.size, 0, none⟩), .pointer (some ⟨g, 0, none⟩), undef, .slice p n cap, .agg (A8 K), .agg (A32 hs), .agg (A8 K), .agg (A8 (maskP K 54)), .agg (A32 (tstate ks hs (maskP K 54))), .slice p' n' cap', undef, undef, undef, undef, undef, undef, undef], defers := [] } (by kernel_rfl) (by rfl) ?_
        refine any_two (i := 5) (j := 6) (by kernel_rfl) ?_ ?_
        · skip
          refine wpOp_call (f := 88) (args := #[.agg (A32 (tstate ks hs (maskP K 54))), .int .i64 (64 : Nat), .slice p' n' cap']) rfl rfl (by go_simp) ?_
          refine (fin_in (hTV.below e2) (tstate_len _ _ _) 64 (by omega) (hjV.below e2)).mono ?_
          rintro e y3 ⟨rfl, hb⟩
          have e3 : Below V.heap.size V y3 := e2.trans (hb.mono e2.size)
          clear hb
          rw [hD]
          refine ⟨_, rfl, ⟨(e3.block 0 hV0).trans Hst.out, (e3.block g vs).trans vg.out⟩, ?_⟩
          refine reframe #[true, true, true, true, true, true, false, false] { tmps := #[.slice p n cap, .slice p' n' cap', undef, undef, .pointer (some ⟨w.heap.size, 0, none⟩), .pointer (some ⟨g, 0, none⟩), undef, .slice p n cap, .agg (A8 K), .agg (A32 hs), .agg (A8 K), .agg (A8 (maskP K 54)), .agg (A32 (tstate ks hs (maskP K 54))), .slice p' n' cap', .agg (A8 D), undef, undef, undef, undef, undef, undef], defers := [] } (by kernel_rfl) (by rfl) ?_
          refine any_one (i := 6) (by kernel_rfl) ?_
          have h6b : V.heap.size ≤ y3.heap.size := e3.size
          have c4 : Below V.heap.size V (y3.alloc (.cells Z8x32 25)) := e3.alloc h6b _
          refine wpOp_val (v := .pointer (some ⟨y3.heap.size, 0, none⟩)) (w' := y3.alloc (.cells Z8x32 25)) rfl rfl ?_ ⟨⟨(c4.block 0 hV0).trans Hst.out, (c4.block g vs).trans vg.out⟩, ?_⟩
          · go_simp
            rfl
          have h6 : (y3.alloc (.cells Z8x32 25)).heap[y3.heap.size]? = some (.cells Z8x32 25) := heapN y3 _ _ rfl
          obtain ⟨x4, hx4⟩ : ∃ x, x = y3.alloc (.cells Z8x32 25) := ⟨_, rfl⟩
          obtain ⟨g6, hg6⟩ : ∃ x, x = y3.heap.size := ⟨_, rfl⟩
          have l6 : y3.heap.size < (y3.alloc (.cells Z8x32 25)).heap.size := by simp
          rw [← hx4] at c4 h6 l6 ⊢
          rw [← hg6] at h6 h6b l6 ⊢
          clear hx4 hg6
          refine reframe #[true, true, true, true, true, true, true, false] { tmps := #[.slice p n cap, .slice p' n' cap', undef, undef, .pointer (some ⟨w.heap.size, 0, none⟩), .pointer (some ⟨g, 0, none⟩), .pointer (some ⟨g6, 0, none⟩), .slice p n cap, .agg (A8 K), .agg (A32 hs), .agg (A8 K), .agg (A8 (maskP K 54)), .agg (A32 (tstate ks hs (maskP K 54))), .slice p' n' cap', .agg (A8 D), undef, undef, undef, undef, undef, undef], defers := [] } (by kernel_rfl) (by rfl) ?_
          refine any_one (i := 7) (by kernel_rfl) ?_
          refine wpOp_store_W rfl rfl 25 (.tmp 6) (.tmp 14) rfl g6 (A8 D) rfl rfl 25 Z8x32 h6 (by rw [info25, A8_size, hDl]) (by rw [A8_size, hDl]; rfl) (A8_one _) ?_
          intro U hU
          have u5 := hU.below V.heap.size V h6b c4
          refine ⟨⟨(u5.block 0 hV0).trans Hst.out, (u5.block g vs).trans vg.out⟩, wpAnyH_done (by kernel_rfl) ?_ _⟩
          refine NoPanic.normal ?_
          have uu : Hid _ := hU.here
          clear hU h6
          go_wp2_with fail
          go_meet
          case rel => exact ⟨g6, rfl, uu.out, Nat.lt_of_lt_of_le vs h6b, u5⟩
        · skip
          have h6b : V.heap.size ≤ y2.heap.size := e2.size
          have c5 : Below V.heap.size V (y2.alloc (.cells Z8x32 25)) := e2.alloc h6b _
          refine wpOp_val (v := .pointer (some ⟨y2.heap.size, 0, none⟩)) (w' := y2.alloc (.cells Z8x32 25)) rfl rfl ?_ ⟨⟨(c5.block 0 hV0).trans Hst.out, (c5.block g vs).trans vg.out⟩, ?_⟩
          · go_simp
            rfl
          have h6 : (y2.alloc (.cells Z8x32 25)).heap[y2.heap.size]? = some (.cells Z8x32 25) := heapN y2 _ _ rfl
          obtain ⟨x5, hx5⟩ : ∃ x, x = y2.alloc (.cells Z8x32 25) := ⟨_, rfl⟩
          obtain ⟨g6, hg6⟩ : ∃ x, x = y2.heap.size := ⟨_, rfl⟩
          have l6 : y2.heap.size < (y2.alloc (.cells Z8x32 25)).heap.size := by simp
          rw [← hx5] at c5 h6 l6 ⊢
          rw [← hg6] at h6 h6b l6 ⊢
          clear hx5 hg6
          refine reframe #[true, true, true, true, true, false, true, false] { tmps := #[.slice p n cap, .slice p' n' cap', undef, undef, .pointer (some ⟨w.heap.size, 0, none⟩), .pointer (some ⟨g, 0, none⟩), .pointer (some ⟨g6, 0, none⟩), .slice p n cap, .agg (A8 K), .agg (A32 hs), .agg (A8 K), .agg (A8 (maskP K 54)), .agg (A32 (tstate ks hs (maskP K 54))), .slice p' n' cap', undef, undef, undef, undef, undef, undef, undef], defers := [] } (by kernel_rfl) (by rfl) ?_
          refine any_one (i := 5) (by kernel_rfl) ?_
          refine wpOp_call (f := 88) (args := #[.agg (A32 (tstate ks hs (maskP K 54))), .int .i64 (64 : Nat), .slice p' n' cap']) rfl rfl (by go_simp) ?_
          refine (fin_in (hTV.below c5) (tstate_len _ _ _) 64 (by omega) (hjV.below c5)).mono ?_
          rintro e y6 ⟨rfl, hb⟩
          have e6 : Below V.heap.size V y6 := c5.trans (hb.mono c5.size)
          have h6' := (hb.block g6 l6).trans h6
          have l6' := Nat.lt_of_lt_of_le l6 hb.size
          clear h6 l6
          have h6 := h6'
          have l6 := l6'
          clear h6' l6'
          clear hb
          rw [hD]
          refine ⟨_, rfl, ⟨(e6.block 0 hV0).trans Hst.out, (e6.block g vs).trans vg.out⟩, ?_⟩
          refine reframe #[true, true, true, true, true, true, true, false] { tmps := #[.slice p n cap, .slice p' n' cap', undef, undef, .pointer (some ⟨w.heap.size, 0, none⟩), .pointer (some ⟨g, 0, none⟩), .pointer (some ⟨g6, 0, none⟩), .slice p n cap, .agg (A8 K), .agg (A32 hs), .agg (A8 K), .agg (A8 (maskP K 54)), .agg (A32 (tstate ks hs (maskP K 54))), .slice p' n' cap', .agg (A8 D), undef, undef, undef, undef, undef, undef], defers := [] } (by kernel_rfl) (by rfl) ?_
          refine any_one (i := 7) (by kernel_rfl) ?_
          refine wpOp_store_W rfl rfl 25 (.tmp 6) (.tmp 14) rfl g6 (A8 D) rfl rfl 25 Z8x32 h6 (by rw [info25, A8_size, hDl]) (by rw [A8_size, hDl]; rfl) (A8_one _) ?_
          intro U hU
          have u5 := hU.below V.heap.size V h6b e6
          refine ⟨⟨(u5.block 0 hV0).trans Hst.out, (u5.block g vs).trans vg.out⟩, wpAnyH_done (by kernel_rfl) ?_ _⟩
          refine NoPanic.normal ?_
          have uu : Hid _ := hU.here
          clear hU h6
          go_wp2_with fail
          go_meet
          case rel => exact ⟨g6, rfl, uu.out, Nat.lt_of_lt_of_le vs h6b, u5⟩
      · skip
        have h6b : V.heap.size ≤ y1.heap.size := e1.size
        have c7 : Below V.heap.size V (y1.alloc (.cells Z8x32 25)) := e1.alloc h6b _
        refine wpOp_val (v := .pointer (some ⟨y1.heap.size, 0, none⟩)) (w' := y1.alloc (.cells Z8x32 25)) rfl rfl ?_ ⟨⟨(c7.block 0 hV0).trans Hst.out, (c7.block g vs).trans vg.out⟩, ?_⟩
        · go_simp
          rfl
        have h6 : (y1.alloc (.cells Z8x32 25)).heap[y1.heap.size]? = some (.cells Z8x32 25) := heapN y1 _ _ rfl
        obtain ⟨x7, hx7⟩ : ∃ x, x = y1.alloc (.cells Z8x32 25) := ⟨_, rfl⟩
        obtain ⟨g6, hg6⟩ : ∃ x, x = y1.heap.size := ⟨_, rfl⟩
        have l6 : y1.heap.size < (y1.alloc (.cells Z8x32 25)).heap.size := by simp
        rw [← hx7] at c7 h6 l6 ⊢
        rw [← hg6] at h6 h6b l6 ⊢
        clear hx7 hg6
        refine reframe #[true, true, true, false, true, false, true, false] { tmps := #[.slice p n cap, .slice p' n' cap', undef, undef, .pointer (some ⟨w.heap.size, 0, none⟩), .pointer (some ⟨g, 0, none⟩), .pointer (some ⟨g6, 0, none⟩), .slice p n cap, .agg (A8 K), .agg (A32 hs), .agg (A8 K), .agg (A8 (maskP K 54)), undef, .slice p' n' cap', undef, undef, undef, undef, undef, undef, undef], defers := [] } (by kernel_rfl) (by rfl) ?_
        refine any_one (i := 3) (by kernel_rfl) ?_
        refine wpOp_call (f := 90) (args := #[.agg (A32 hs), .agg (A8 (maskP K 54))]) rfl rfl (by go_simp) ?_
        refine (take_any ks hs (maskP K 54) _ hT.klen hT.hlen (by rw [maskP_len, hKl]) (maskP_bytes K 54) (hTV.below c7).rounds).mono ?_
        rintro e y8 ⟨rfl, hb⟩
        have e8 : Below V.heap.size V y8 := c7.trans (hb.mono c7.size)
        have h6' := (hb.block g6 l6).trans h6
        have l6' := Nat.lt_of_lt_of_le l6 hb.size
        clear h6 l6
        have h6 := h6'
        have l6 := l6'
        clear h6' l6'
        clear hb
        refine ⟨_, rfl, ⟨(e8.block 0 hV0).trans Hst.out, (e8.block g vs).trans vg.out⟩, ?_⟩
        refine reframe #[true, true, true, true, true, false, true, false] { tmps := #[.slice p n cap, .slice p' n' cap', undef, undef, .pointer (some ⟨w.heap.size, 0, none⟩), .pointer (some ⟨g, 0, none⟩), .pointer (some ⟨g6, 0, none⟩), .slice p n cap, .agg (A8 K), .agg (A32 hs), .agg (A8 K), .agg (A8 (maskP K 54)), .agg (A32 (tstate ks hs (maskP K 54))), .slice p' n' cap', undef, undef, undef, undef, undef, undef, undef], defers := [] } (by kernel_rfl) (by rfl) ?_
        refine any_one (i := 5) (by kernel_rfl) ?_
        refine wpOp_call (f := 88) (args := #[.agg (A32 (tstate ks hs (maskP K 54))), .int .i64 (64 : Nat), .slice p' n' cap']) rfl rfl (by go_simp) ?_
        refine (fin_in (hTV.below e8) (tstate_len _ _ _) 64 (by omega) (hjV.below e8)).mono ?_
        rintro e y9 ⟨rfl, hb⟩
        have e9 : Below V.heap.size V y9 := e8.trans (hb.mono e8.size)
        have h6' := (hb.block g6 l6).trans h6
        have l6' := Nat.lt_of_lt_of_le l6 hb.size
        clear h6 l6
        have h6 := h6'
        have l6 := l6'
        clear h6' l6'
        clear hb
        rw [hD]
        refine ⟨_, rfl, ⟨(e9.block 0 hV0).trans Hst.out, (e9.block g vs).trans vg.out⟩, ?_⟩
        refine reframe #[true, true, true, true, true, true, true, false] { tmps := #[.slice p n cap, .slice p' n' cap', undef, undef, .pointer (some ⟨w.heap.size, 0, none⟩), .pointer (some ⟨g, 0, none⟩), .pointer (some ⟨g6, 0, none⟩), .slice p n cap, .agg (A8 K), .agg (A32 hs), .agg (A8 K), .agg (A8 (maskP K 54)), .agg (A32 (tstate ks hs (maskP K 54))), .slice p' n' cap', .agg (A8 D), undef, undef, undef, undef, undef, undef], defers := [] } (by kernel_rfl) (by rfl) ?_
        refine any_one (i := 7) (by kernel_rfl) ?_
        refine wpOp_store_W rfl rfl 25 (.tmp 6) (.tmp 14) rfl g6 (A8 D) rfl rfl 25 Z8x32 h6 (by rw [info25, A8_size, hDl]) (by rw [A8_size, hDl]; rfl) (A8_one _) ?_
        intro U hU
        have u5 := hU.below V.heap.size V h6b e9
        refine ⟨⟨(u5.block 0 hV0).trans Hst.out, (u5.block g vs).trans vg.out⟩, wpAnyH_done (by kernel_rfl) ?_ _⟩
        refine NoPanic.normal ?_
        have uu : Hid _ := hU.here
        clear hU h6
        go_wp2_with fail
        go_meet
        case rel => exact ⟨g6, rfl, uu.out, Nat.lt_of_lt_of_le vs h6b, u5⟩
    · skip
      have h6b : V.heap.size ≤ V.drew.heap.size := eV.size
      have c10 : Below V.heap.size V (V.drew.alloc (.cells Z8x32 25)) := eV.alloc h6b _
      refine wpOp_val (v := .pointer (some ⟨V.drew.heap.size, 0, none⟩)) (w' := V.drew.alloc (.cells Z8x32 25)) rfl rfl ?_ ⟨⟨(c10.block 0 hV0).trans Hst.out, (c10.block g vs).trans vg.out⟩, ?_⟩
      · go_simp
        rfl
      have h6 : (V.drew.alloc (.cells Z8x32 25)).heap[V.drew.heap.size]? = some (.cells Z8x32 25) := heapN V.drew _ _ rfl
      obtain ⟨x10, hx10⟩ : ∃ x, x = V.drew.alloc (.cells Z8x32 25) := ⟨_, rfl⟩
      obtain ⟨g6, hg6⟩ : ∃ x, x = V.drew.heap.size := ⟨_, rfl⟩
      have l6 : V.drew.heap.size < (V.drew.alloc (.cells Z8x32 25)).heap.size := by simp
      rw [← hx10] at c10 h6 l6 ⊢
      rw [← hg6] at h6 h6b l6 ⊢
      clear hx10 hg6
      refine reframe #[true, true, false, false, true, false, true, false] { tmps := #[.slice p n cap, .slice p' n' cap', undef, undef, .pointer (some ⟨w.heap.size, 0, none⟩), .pointer (some ⟨g, 0, none⟩), .pointer (some ⟨g6, 0, none⟩), .slice p n cap, .agg (A8 K), .agg (A32 hs), .agg (A8 K), undef, undef, .slice p' n' cap', undef, undef, undef, undef, undef, undef, undef], defers := [] } (by kernel_rfl) (by rfl) ?_
      refine any_one (i := 2) (by kernel_rfl) ?_
      refine wpOp_call (f := 91) (args := #[.agg (A8 K), .int .u8 54]) rfl rfl (by go_simp) ?_
      refine (masked_p K 54 _ hKl).mono ?_
      rintro e y11 ⟨rfl, hb⟩
      have e11 : Below V.heap.size V y11 := c10.trans (hb.mono c10.size)
      have h6' := (hb.block g6 l6).trans h6
      have l6' := Nat.lt_of_lt_of_le l6 hb.size
      clear h6 l6
      have h6 := h6'
      have l6 := l6'
      clear h6' l6'
      clear hb
      refine ⟨_, rfl, ⟨(e11.block 0 hV0).trans Hst.out, (e11.block g vs).trans vg.out⟩, ?_⟩
      refine reframe #[true, true, true, false, true, false, true, false] { tmps := #[.slice p n cap, .slice p' n' cap', undef, undef, .pointer (some ⟨w.heap.size, 0, none⟩), .pointer (some ⟨g, 0, none⟩), .pointer (some ⟨g6, 0, none⟩), .slice p n cap, .agg (A8 K), .agg (A32 hs), .agg (A8 K), .agg (A8 (maskP K 54)), undef, .slice p' n' cap', undef, undef, undef, undef, undef, undef, undef], defers := [] } (by kernel_rfl) (by rfl) ?_
      refine any_one (i := 3) (by kernel_rfl) ?_
      refine wpOp_call (f := 90) (args := #[.agg (A32 hs), .agg (A8 (maskP K 54))]) rfl rfl (by go_simp) ?_
      refine (take_any ks hs (maskP K 54) _ hT.klen hT.hlen (by rw [maskP_len, hKl]) (maskP_bytes K 54) (hTV.below e11).rounds).mono ?_
      rintro e y12 ⟨rfl, hb⟩
      have e12 : Below V.heap.size V y12 := e11.trans (hb.mono e11.size)
      have h6' := (hb.block g6 l6).trans h6
      have l6' := Nat.lt_of_lt_of_le l6 hb.size
      clear h6 l6
      have h6 := h6'
      have l6 := l6'
      clear h6' l6'
      clear hb
      refine ⟨_, rfl, ⟨(e12.block 0 hV0).trans Hst.out, (e12.block g vs).trans vg.out⟩, ?_⟩
      refine reframe #[true, true, true, true, true, false, true, false] { tmps := #[.slice p n cap, .slice p' n' cap', undef, undef, .pointer (some ⟨w.heap.size, 0, none⟩), .pointer (some ⟨g, 0, none⟩), .pointer (some ⟨g6, 0, none⟩), .slice p n cap, .agg (A8 K), .agg (A32 hs), .agg (A8 K), .agg (A8 (maskP K 54)), .agg (A32 (tstate ks hs (maskP K 54))), .slice p' n' cap', undef, undef, undef, undef, undef, undef, undef], defers := [] } (by kernel_rfl) (by rfl) ?_
      refine any_one (i := 5) (by kernel_rfl) ?_
      refine wpOp_call (f := 88) (args := #[.agg (A32 (tstate ks hs (maskP K 54))), .int .i64 (64 : Nat), .slice p' n' cap']) rfl rfl (by go_simp) ?_
      refine (fin_in (hTV.below e12) (tstate_len _ _ _) 64 (by omega) (hjV.below e12)).mono ?_
      rintro e y13 ⟨rfl, hb⟩
      have e13 : Below V.heap.size V y13 := e12.trans (hb.mono e12.size)
      have h6' := (hb.block g6 l6).trans h6
      have l6' := Nat.lt_of_lt_of_le l6 hb.size
      clear h6 l6
      have h6 := h6'
      have l6 := l6'
      clear h6' l6'
      clear hb
      rw [hD]
      refine ⟨_, rfl, ⟨(e13.block 0 hV0).trans Hst.out, (e13.block g vs).trans vg.out⟩, ?_⟩
      refine reframe #[true, true, true, true, true, true, true, false] { tmps := #[.slice p n cap, .slice p' n' cap', undef, undef, .pointer (some ⟨w.heap.size, 0, none⟩), .pointer (some ⟨g, 0, none⟩), .pointer (some ⟨g6, 0, none⟩), .slice p n cap, .agg (A8 K), .agg (A32 hs), .agg (A8 K), .agg (A8 (maskP K 54)), .agg (A32 (tstate ks hs (maskP K 54))), .slice p' n' cap', .agg (A8 D), undef, undef, undef, undef, undef, undef], defers := [] } (by kernel_rfl) (by rfl) ?_
      refine any_one (i := 7) (by kernel_rfl) ?_
      refine wpOp_store_W rfl rfl 25 (.tmp 6) (.tmp 14) rfl g6 (A8 D) rfl rfl 25 Z8x32 h6 (by rw [info25, A8_size, hDl]) (by rw [A8_size, hDl]; rfl) (A8_one _) ?_
      intro U hU
      have u5 := hU.below V.heap.size V h6b e13
      refine ⟨⟨(u5.block 0 hV0).trans Hst.out, (u5.block g vs).trans vg.out⟩, wpAnyH_done (by kernel_rfl) ?_ _⟩
      refine NoPanic.normal ?_
      have uu : Hid _ := hU.here
      clear hU h6
      go_wp2_with fail
      go_meet
      case rel => exact ⟨g6, rfl, uu.out, Nat.lt_of_lt_of_le vs h6b, u5⟩
  case rest =>
    obtain ⟨g6, rfl, ug, hgs, u5⟩ := hcut
    have u0 : Hid (wc.heap[0]? = _) := (u5.block 0 hV0).trans Hst.out
    have uk : Hid (wc.heap[g]? = _) := (u5.block g vs).trans vg.out
    have uz : Hid (wc.heap[w.heap.size]? = _) := (u5.block w.heap.size (by omega)).trans vz.out
    have ub : Below w.heap.size w wc := vb.trans (u5.mono (by omega))
    have hTU := hTV.below u5
    have hin := in8_row ug hDl hDb
    have hs5 : V.heap.size ≤ wc.heap.size := u5.size
    have hU0 : 0 < wc.heap.size := by omega
    have us : g < wc.heap.size := by omega
    clear ug vg vz Hst hjV hTV
    go_wp2_with fail
    refine wp_region_noPanic ?_
    refine wp_region_held (S := fun w' => w'.heap[0]? = some (.cells (A32 hs) tS fr) ∧ w'.heap[g]? = some (.cells (A8 K) 146)) follows ?_
    refine wpAnyH_take (i := 0) rfl (by kernel_rfl) (by kernel_rfl) (by kernel_rfl) (fun _ _ _ h => h) (yieldsIf_load_row rfl 143 (.global 0) rfl 0 rfl tS (A32 hs) fr (.array 8 98) (fun _ h => h.1) und40 rfl (by rw [info40, A32_size, hT.hlen])) ⟨u0.out, uk.out⟩ ?_
    refine reframe #[true, false, false, false, false, false, false] { tmps := #[.slice p n cap, .slice p' n' cap', undef, undef, .pointer (some ⟨w.heap.size, 0, none⟩), .pointer (some ⟨g, 0, none⟩), .pointer (some ⟨g6, 0, none⟩), u7, u8, u9, u10, u11, u12, u13, u14, .agg (A32 hs), u16, u17, u18, u19, u20], defers := [] } (by kernel_rfl) (by rfl) ?_
    refine wpAnyH_take (i := 1) rfl (by kernel_rfl) (by kernel_rfl) (by kernel_rfl) (fun _ _ _ h => h) (yieldsIf_load_row rfl 146 (.tmp 5) rfl g rfl 146 (A8 K) (0, 0) (.array 64 5) (fun _ h => h.2) und43 rfl (by rw [info43, A8_size, hKl])) ⟨u0.out, uk.out⟩ ?_
    refine reframe #[true, true, false, false, false, false, false] { tmps := #[.slice p n cap, .slice p' n' cap', undef, undef, .pointer (some ⟨w.heap.size, 0, none⟩), .pointer (some ⟨g, 0, none⟩), .pointer (some ⟨g6, 0, none⟩), u7, u8, u9, u10, u11, u12, u13, u14, .agg (A32 hs), .agg (A8 K), u17, u18, u19, u20], defers := [] } (by kernel_rfl) (by rfl) ?_
    refine wpAnyH_take (i := 4) (v := .slice (some ⟨g6, 0, none⟩) 32 32) rfl (by kernel_rfl) (by kernel_rfl) (by kernel_rfl) (fun _ _ _ h => h) (.inl ⟨rfl, fun W _ => by go_simp⟩) ⟨u0.out, uk.out⟩ ?_
    refine reframe #[true, true, false, false, true, false, false] { tmps := #[.slice p n cap, .slice p' n' cap', undef, undef, .pointer (some ⟨w.heap.size, 0, none⟩), .pointer (some ⟨g, 0, none⟩), .pointer (some ⟨g6, 0, none⟩), u7, u8, u9, u10, u11, u12, u13, u14, .agg (A32 hs), .agg (A8 K), u17, u18, .slice (some ⟨g6, 0, none⟩) 32 32, u20], defers := [] } (by kernel_rfl) (by rfl) ?_
    refine any_one (i := 2) (by kernel_rfl) ?_
    refine wpOp_call (f := 91) (args := #[.agg (A8 K), .int .u8 92]) rfl rfl (by go_simp) ?_
    refine (masked_p K 92 _ hKl).mono ?_
    rintro e w2 ⟨rfl, hb2⟩
    have b2 : Below wc.heap.size wc w2 := ⟨hb2.os, hb2.tape, hb2.output, hb2.size, hb2.block⟩
    clear hb2
    refine ⟨_, rfl, ⟨(b2.block 0 hU0).trans u0.out, (b2.block g us).trans uk.out⟩, ?_⟩
    refine reframe #[true, true, true, false, true, false, false] { tmps := #[.slice p n cap, .slice p' n' cap', undef, undef, .pointer (some ⟨w.heap.size, 0, none⟩), .pointer (some ⟨g, 0, none⟩), .pointer (some ⟨g6, 0, none⟩), u7, u8, u9, u10, u11, u12, u13, u14, .agg (A32 hs), .agg (A8 K), .agg (A8 (maskP K 92)), u18, .slice (some ⟨g6, 0, none⟩) 32 32, u20], defers := [] } (by kernel_rfl) (by rfl) ?_
    refine any_one (i := 3) (by kernel_rfl) ?_
    refine wpOp_call (f := 90) (args := #[.agg (A32 hs), .agg (A8 (maskP K 92))]) rfl rfl (by go_simp) ?_
    refine (take_any ks hs (maskP K 92) w2 hT.klen hT.hlen (by rw [maskP_len, hKl]) (maskP_bytes K 92) (hTU.below b2).rounds).mono ?_
    rintro e w3 ⟨rfl, hb3⟩
    have b3 : Below wc.heap.size wc w3 := b2.trans (hb3.mono b2.size)
    clear hb3
    refine ⟨_, rfl, ⟨(b3.block 0 hU0).trans u0.out, (b3.block g us).trans uk.out⟩, ?_⟩
    refine reframe #[true, true, true, true, true, false, false] { tmps := #[.slice p n cap, .slice p' n' cap', undef, undef, .pointer (some ⟨w.heap.size, 0, none⟩), .pointer (some ⟨g, 0, none⟩), .pointer (some ⟨g6, 0, none⟩), u7, u8, u9, u10, u11, u12, u13, u14, .agg (A32 hs), .agg (A8 K), .agg (A8 (maskP K 92)), .agg (A32 (tstate ks hs (maskP K 92))), .slice (some ⟨g6, 0, none⟩) 32 32, u20], defers := [] } (by kernel_rfl) (by rfl) ?_
    refine any_one (i := 5) (by kernel_rfl) ?_
    refine wpOp_call (f := 88) (args := #[.agg (A32 (tstate ks hs (maskP K 92))), .int .i64 (64 : Nat), .slice (some ⟨g6, 0, none⟩) 32 32]) rfl rfl (by go_simp) ?_
    refine (fin_in (hTU.below b3) (tstate_len _ _ _) 64 (by omega) (hin.below b3)).mono ?_
    rintro e w4 ⟨rfl, hb4⟩
    have b4 : Below wc.heap.size wc w4 := b3.trans (hb4.mono b3.size)
    clear hb4
    refine ⟨_, rfl, ⟨(b4.block 0 hU0).trans u0.out, (b4.block g us).trans uk.out⟩, ?_⟩
    have hRl := finP_len ks (tstate ks hs (maskP K 92)) (64 + 32) D
    generalize finP ks (tstate ks hs (maskP K 92)) (64 + 32) D = R at *
    refine reframe #[true, true, true, true, true, true, false] { tmps := #[.slice p n cap, .slice p' n' cap', undef, undef, .pointer (some ⟨w.heap.size, 0, none⟩), .pointer (some ⟨g, 0, none⟩), .pointer (some ⟨g6, 0, none⟩), u7, u8, u9, u10, u11, u12, u13, u14, .agg (A32 hs), .agg (A8 K), .agg (A8 (maskP K 92)), .agg (A32 (tstate ks hs (maskP K 92))), .slice (some ⟨g6, 0, none⟩) 32 32, .agg (A8 R)], defers := [] } (by kernel_rfl) (by rfl) ?_
    refine any_one (i := 6) (by kernel_rfl) ?_
    refine wpOp_store_W rfl rfl 25 (.tmp 4) (.tmp 20) rfl w.heap.size (A8 R) rfl rfl 25 Z8x32 ((b4.block w.heap.size (by omega)).trans uz.out) (by rw [info25, A8_size, hRl]) (by rw [A8_size, hRl]; rfl) (A8_one _) ?_
    intro T hT'
    refine ⟨⟨(hT'.other 0 (by have := hT.size; omega)).trans ((b4.block 0 hU0).trans u0.out), (hT'.other g (by omega)).trans ((b4.block g us).trans uk.out)⟩, wpAnyH_done (by kernel_rfl) ?_ _⟩
    refine NoPanic.normal ?_
    have tb := hT'.below _ _ (Nat.le_refl _) (ub.trans (b4.mono (by omega)))
    have th : Hid (T.heap[w.heap.size]? = _) := hT'.here
    clear hT' b4 b3 b2 hin
    go_wp2_with fail
    exact bodyPost_ret (v := .agg (A8 R)) (results_cell_row rfl _ _ w.heap.size 25 _ (0, 0) _ rfl th.out und25 rfl (by rw [info25, A8_size, hRl])) rfl ⟨by rw [HE2.out], tb⟩
theorem tagP_len (ks hs xs ys : List Int) : (tagP ks hs xs ys).length = 32 := finP_len _ _ _ _
end Go.Proofs.YtcmjlhcpoajbkaaDoor
namespace Go.Proofs.YtcmjlhcpoajbkaaDoor
set_option maxRecDepth 10000
open Go.RowKit
/-- A text's bytes as numbers. -/
def toI (l : List UInt8) : List Int := l.map fun b => (b.toNat : Int)
theorem toI_len (l : List UInt8) : (toI l).length = l.length := by simp [toI]
theorem toI_bytes (l : List UInt8) : Bytes (toI l) := .of fun x hx => by
  simp only [toI, List.mem_map] at hx
  obtain ⟨b, _, rfl⟩ := hx
  have := b.toNat_lt
  omega
theorem toI_get (l : List UInt8) (i : Nat) (h : i < l.length) : (toI l).getD i 0 = ((l[i]).toNat : Int) := by
  simp [toI, h]
/-- The constants. -/
def KS : List Int := [1116352408, 1899447441, 3049323471, 3921009573, 961987163, 1508970993, 2453635748, 2870763221, 3624381080, 310598401, 607225278, 1426881987, 1925078388, 2162078206, 2614888103, 3248222580, 3835390401, 4022224774, 264347078, 604807628, 770255983, 1249150122, 1555081692, 1996064986, 2554220882, 2821834349, 2952996808, 3210313671, 3336571891, 3584528711, 113926993, 338241895, 666307205, 773529912, 1294757372, 1396182291, 1695183700, 1986661051, 2177026350, 2456956037, 2730485921, 2820302411, 3259730800, 3345764771, 3516065817, 3600352804, 4094571909, 275423344, 430227734, 506948616, 659060556, 883997877, 958139571, 1322822218, 1537002063, 1747873779, 1955562222, 2024104815, 2227730452, 2361852424, 2428436474, 2756734187, 3204031479, 3329325298]
def HS : List Int := [1779033703, 3144134277, 1013904242, 2773480762, 1359893119, 2600822924, 528734635, 1541459225]
/-- Numbers as a text's bytes. -/
def toU (l : List Int) : List UInt8 := l.map fun n => UInt8.ofNat n.toNat
theorem toU_len (l : List Int) : (toU l).length = l.length := by simp [toU]
theorem toI_toU (l : List Int) (h : Bytes l) : toI (toU l) = l := by
  simp only [toI, toU, List.map_map]
  conv => rhs; rw [← List.map_id l]
  apply List.map_congr_left
  intro x hx
  have := h.mem x hx
  simp only [Function.comp, UInt8.toNat_ofNat', id]
  omega
theorem byte_at (l : List UInt8) (i : Nat) (_h : i < l.length) (h' : i < (ByteArray.mk l.toArray).size) : ((ByteArray.mk l.toArray)[i]'h').toNat = (l[i]).toNat := rfl
theorem conv_row (D : List Int) (w : World) (g n cap : Nat) (t : TypeId) (fr : Nat × Nat) (hn : D.length = n) (h : w.heap[g]? = some (.cells (A8 D) t fr)) :
    (convert 22 9 (.slice (some ⟨g, 0, none⟩) n cap)).run Tryd.prog w = .ok (.string ⟨(toU D).toArray⟩) w :=
  run_convert_bytes_arg (P := Tryd.prog) (w := w) 22 5 Tryd.underlying22 Tryd.underlying5 g 0 n cap D hn (fun j hj => by
    rw [cell_of_row _ _ _ _ _ _ h, Nat.zero_add, A8_get _ _ (by omega)]) 9 Tryd.underlying9
end Go.Proofs.YtcmjlhcpoajbkaaDoor
namespace Go.Proofs.YtcmjlhcpoajbkaaDoor
set_option maxRecDepth 10000
open Go.RowKit
theorem info5' : ∃ i, Tryd.prog.info? 5 = some i ∧ i.zero = some (.int .u8 0) ∧ i.size = 1 ∧ i.bytes = 1 := ⟨_, rfl, rfl, rfl, rfl⟩
theorem owns8 {w : World} {B : Nat} {v : Value} {l : List Int} {n : Nat} (h : w.ownsRow B 5 1 v n (l.map (Value.int .u8))) (hn : 0 < n) :
    ∃ g cap, v = .slice (some ⟨g, 0, none⟩) n cap ∧ B ≤ g ∧ g < w.heap.size ∧ n ≤ cap ∧ cap ≤ maxLen ∧ l.length = n ∧ ∀ j, j < n → w.cell? ⟨g, j, none⟩ = some (.int .u8 (l.getD j 0)) := by
  obtain ⟨hl, ⟨_, h0⟩ | ⟨g, cap, cur, rfl, hg, hh, hc, hm, hs, ht⟩⟩ := h
  · omega
  · have hl' : l.length = n := by simpa using hl
    refine ⟨g, cap, rfl, hg, row_lt hh, hc, hm, hl', fun j hj => ?_⟩
    rw [cell_of_row _ _ _ _ _ _ hh]
    have e := congrArg (fun z : List Value => z[j]?) ht
    simp only [Nat.mul_one, List.getElem?_take, if_pos hj, List.getElem?_map] at e
    rw [← Array.getElem?_toList, e]
    rw [List.getD_eq_getElem?_getD, List.getElem?_eq_getElem (by omega)]
    rfl
theorem wpList_app8 {ops : Array Oper} {rest : List Oper} {o : Oper} {a : Act} {Q : Exit → Act → World → Prop} {w : World} (hgd : o.guard = none) (s x : Operand)
    (ho : o.op = .call { callee := .builtin .append, args := #[s, x], argTypes := #[22, 22] }) (B : Nat) (v : Value) (l : List Int) (n : Nat) (hs : a.eval s = v)
    (hown : w.ownsRow B 5 1 v n (l.map (Value.int .u8))) (ad : Addr) (m c : Nat) (ys : List Int) (hx : a.eval x = .slice (some ad) m c) (hl : ys.length = m)
    (hnews : ∀ j, j < m → w.cell? (ad.add j) = some (.int .u8 (ys.getD j 0))) (hm : 0 < m) (hn : n + m ≤ 140737488355328) (hB : B ≤ w.heap.size)
    (h : ∀ v' w', w'.ownsRow B 5 1 v' (n + m) ((l ++ ys).map (Value.int .u8)) → w.heap.size ≤ w'.heap.size → (∀ w0, Below B w0 w → Below B w0 w') → wpList Tryd.prog ops Q rest (a.put o.dst v') w') : wpList Tryd.prog ops Q (o :: rest) a w := by
  obtain ⟨i, hi, hz, hsz, hby⟩ := info5'
  refine wpList_append_lies w hgd s x 22 ho B 5 i (.int .u8 0) 1 1 Tryd.underlying22 hi hz hsz hby rfl (by omega) v n _ hs hown ad m c (ys.map (Value.int .u8)) hx (by simp [hl]) (fun j u hu => ?_) (fun u hu => ?_) hm (by unfold maxLen; omega) (by omega) hB _ rfl ?_
  · have hj : j < ys.length := by
      rcases Nat.lt_or_ge j ys.length with h' | h'
      · exact h'
      · rw [List.getElem?_eq_none (by simpa using h')] at hu; cases hu
    rw [hnews j (by omega)]
    simp only [List.getElem?_map, List.getElem?_eq_getElem hj, Option.map_some, Option.some.injEq] at hu
    rw [← hu, List.getD_eq_getElem?_getD, List.getElem?_eq_getElem hj]; rfl
  · simp only [List.mem_map] at hu; obtain ⟨y, _, rfl⟩ := hu; rfl
  · intro g cap w' h1 h2 h3 h4
    refine h _ w' (by simpa using h1) h2.size (fun w0 hb => hb.grown h2 hB (fun k hk => ?_))
    rcases hown.2 with ⟨rfl, _⟩ | ⟨g', c', cur, rfl, hg', _⟩
    · cases hk
    · simp only [Value.ownBlock, Option.some.injEq] at hk; omega
theorem eql_nil (a : Option Addr) (l c : Nat) (w : World) : (binOp .eql 22 (.slice a l c) (.slice none 0 0)).run Tryd.prog w = .ok (.bool a.isNone) w := by
  simp only [binOp]
  simp [run_equal_slice_nil w 22 5 a l c Tryd.underlying22]
end Go.Proofs.YtcmjlhcpoajbkaaDoor
namespace Go.Proofs.YtcmjlhcpoajbkaaDoor
set_option maxRecDepth 10000
open Go.RowKit
open Extern.Stop (cell)
section
variable {P : Program} {ops : Array Oper} {Q : Exit → Act → World → Prop} {S : World → Prop}
theorem wpOp_callG {i : Nat} {o : Oper} {K : Act → World → Prop} {a : Act} {w : World} {f : FuncId} {args : Array Value} (hi : ops[i]? = some o) (hw : Region.wanted o (yielded ops a.tmps) = true)
    (hrun : (execOp a.eval o).run P w = .ok (.enter f args) w) (h : Calls P f args w fun e w'' => ∃ v, e = .returned v ∧ K (a.put o.dst v) w'') : wpOp P ops Q i K a w := by
  unfold wpOp
  simp only [hi, hw, if_true]
  refine .inl ?_
  unfold Oper.wp
  rw [hrun]
  exact h.mono fun e w'' ⟨v, he, hk⟩ => by subst he; exact hk
theorem yieldsIf_rowG {o : Oper} {a : Act} (hw : Region.wanted o (yielded ops a.tmps) = true) (ty : TypeId) (x : Operand) (ho : o.op = .load ty x)
    (g : Nat) (hx : a.eval x = .pointer (some ⟨g, 0, none⟩)) (t : TypeId) (cs : Array Value) (fr : Nat × Nat) (d : TypeDesc) (hS : ∀ w, S w → w.heap[g]? = some (.cells cs t fr))
    (hu : P.underlying ty = some d) (hd : (match d with | .struct _ | .array _ _ => true | _ => false) = true) (hi : (P.info? ty).map (·.size) = some cs.size) : YieldsIf P ops S o (.agg cs) a :=
  .inl ⟨hw, fun w hS' => by
    unfold execOp
    simp only [ho, hx, Instr.loadAt, Instr.sureAddr, Sem.run_bind, Sem.run_pure, Result.andThen_ok, run_loadVar_row w g t ty cs fr d (hS w hS') hu hd hi]⟩
end
end Go.Proofs.YtcmjlhcpoajbkaaDoor
namespace Go.Proofs.YtcmjlhcpoajbkaaDoor
set_option maxRecDepth 100000
open Go.ChangeShapes Go.WideShapes Go.ChangeAt Go.RowKit
theorem own : ownKnob Tryd.prog.godebug = none := by kernel_rfl
theorem laidOut : laidOutB Tryd.prog = true := by kernel_rfl
def nStart : String := Rows.hashesRow.named.getD 0 default
def nRounds : String := Rows.hashesRow.named.getD 1 default
theorem gStart : Tryd.prog.globalNamed nStart = some 0 := by kernel_rfl
theorem gRounds : Tryd.prog.globalNamed nRounds = some 1 := by kernel_rfl
theorem tStart : (Tryd.prog.globals[0]?).map (·.type) = some 143 := by kernel_rfl
theorem tRounds : (Tryd.prog.globals[1]?).map (·.type) = some 167 := by kernel_rfl
def laid2 : List (String × DataW Unit) := Rows.hashesRow.laid
theorem door_met (os : Os) (args : Array Value) : laidMetH Tryd.prog laid2 ((World.doorLaid Tryd.prog 400 os).forCall (fun _ _ => 0) ⟨#[], args, []⟩).memory :=
  laidMetH_of_parts3 (fuel := 8) (laidMet_of_run' 8 (by kernel_rfl) (by kernel_rfl)) (by kernel_rfl) (by kernel_rfl)
theorem block_of_var {W : World} {name : String} {g : Nat} {cs : Array Value} (hg : Tryd.prog.globalNamed name = some g) (h : W.var? Tryd.prog name = some cs) : ∃ t fr, W.heap[g]? = some (.cells cs t fr) := by
  unfold World.var? at h
  rw [hg] at h
  simp only [Option.bind_some] at h
  split at h
  · rename_i cs' t fr e
    cases h
    exact ⟨t, fr, e⟩
  · cases h
theorem tabs_of_laid {W : World} (h : laidMetH Tryd.prog laid2 W) : Tabs KS HS W := by
  rw [MakeChecks.laidMetH_plain _ _ _ (by kernel_rfl)] at h
  have h : laidMet Tryd.prog [(nStart, Lib.tabData .u32 HS), (nRounds, Lib.tabData .u32 KS)] W := h
  have h1 : Lib.TabIs Tryd.prog W nStart .u32 HS := Lib.tabIs_of_head (n := 8) gStart tStart und40 Tryd.underlying98 (by kernel_rfl) (by kernel_rfl) h
  have h2 : Lib.TabIs Tryd.prog W nRounds .u32 KS := Lib.tabIs_of_head (n := 64) gRounds tRounds und49 Tryd.underlying98 (by kernel_rfl) (by kernel_rfl) (laidMet.tail h)
  exact ⟨rfl, rfl, block_of_var gStart h1, block_of_var gRounds h2⟩
theorem bytes5 : Tryd.prog.bytesOf 5 = 1 := by kernel_rfl
end Go.Proofs.YtcmjlhcpoajbkaaDoor
namespace Go.Proofs.YtcmjlhcpoajbkaaDoor
set_option maxRecDepth 10000
open Go.RowKit
/-- Append of nothing. -/
theorem run_app_none (w : World) (ty : TypeId) (p q : Option Addr) (n cap c : Nat) (h : n ≤ cap) :
    (Builtin.append_ #[22, 22] ty #[.slice p n cap, .slice q 0 c]).run Tryd.prog w = .ok (.slice p n cap) w := by
  obtain ⟨i, hi, hz, hsz, hby⟩ := info5'
  cases p <;> cases q <;> simp [Builtin.append_, run_underlying Tryd.underlying22, sizeOf, typeInfo, hi, Builtin.lenOf, Builtin.firstCells, h, storeCells, loadCells, loadCellsFrom]
/-- Grow of nil. -/
theorem grow_zeros (w : World) (ty : TypeId) (k : Nat) (h0 : 0 < k) (hk : k ≤ 140737488355328) :
    (Builtin.append_ #[22, 3] ty #[.slice none 0 0, .int .i64 k]).run Tryd.prog w =
      .ok (.slice (some ⟨w.heap.size, 0, none⟩) k (grownCap w k 0 5)) (w.drew.alloc (.cells ((Builtin.zeroCells #[.int .u8 0] k) ++ (Builtin.zeroCells #[.int .u8 0] (grownCap w k 0 5 - k))) 5)) := by
  obtain ⟨i, hi, hz, hsz, hby⟩ := info5'
  have h := Lib.run_append_grow_zeros (P := Tryd.prog) w 22 3 ty 5 i (.int .u8 0) .i64 .i64 Tryd.underlying22 Tryd.underlying3 hi hz none 0 0 [] (run_firstCells_none w.drew i.size 0 0 0) k h0 (by omega) (by omega) (by omega) (by rw [hby]; omega) (by rw [hby]; exact growslice_fits (by omega) (by omega))
  rw [Nat.zero_add] at h
  rw [h]
  have e : (Value.int .u8 0).cells = #[.int .u8 0] := rfl
  rw [e]
  simp
theorem wpList_growz {ops : Array Oper} {rest : List Oper} {o : Oper} {a : Act} {Q : Exit → Act → World → Prop} {w : World} (hgd : o.guard = none) (s x : Operand)
    (ho : o.op = .call { callee := .builtin .append, args := #[s, x], argTypes := #[22, 3] }) (k : Nat) (hs : a.eval s = .slice none 0 0) (hx : a.eval x = .int .i64 k) (h0 : 0 < k) (hk : k ≤ 140737488355328)
    (h : ∀ G w', k ≤ G → G ≤ maxLen → Hid (w'.ownsRow w.heap.size 5 1 (.slice (some ⟨w.heap.size, 0, none⟩) 0 G) 0 []) → Below w.heap.size w w' → wpList Tryd.prog ops Q rest (a.put o.dst (.slice (some ⟨w.heap.size, 0, none⟩) k G)) w') : wpList Tryd.prog ops Q (o :: rest) a w := by
  have hge := grownCap_ge w k 0 5
  have hle := grownCap_le_maxLen w k 0 5 (by unfold maxLen; omega)
  have hr := grow_zeros w o.type k h0 hk
  refine wpList_plain hgd fun _ hK => ?_
  unfold Oper.wp execOp
  simp only [ho, resolve, invoke, builtin, Sem.run_bind, Sem.run_pure, Result.andThen_ok, List.map_toArray, List.map_cons, List.map_nil, hs, hx, hr]
  generalize grownCap w k 0 5 = G at *
  refine hK _ _ (h G _ hge hle ?_ ((Below.refl _ _).drew.alloc (Nat.le_refl _) _))
  refine ⟨rfl, .inr ⟨w.heap.size, G, _, rfl, Nat.le_refl _, heapN w.drew _ _ rfl, by omega, hle, ?_, rfl⟩⟩
  rw [Array.size_append, size_zeroCells, size_zeroCells]
  show k * 1 + (G - k) * 1 = G * 1
  omega
theorem wpList_app_none {ops : Array Oper} {rest : List Oper} {o : Oper} {a : Act} {Q : Exit → Act → World → Prop} {w : World} (hgd : o.guard = none) (s x : Operand)
    (ho : o.op = .call { callee := .builtin .append, args := #[s, x], argTypes := #[22, 22] }) (p q : Option Addr) (n cap c : Nat) (hs : a.eval s = .slice p n cap) (hx : a.eval x = .slice q 0 c) (hn : n ≤ cap)
    (h : wpList Tryd.prog ops Q rest (a.put o.dst (.slice p n cap)) w) : wpList Tryd.prog ops Q (o :: rest) a w := by
  have hr := run_app_none w o.type p q n cap c hn
  refine wpList_plain hgd fun _ hK => ?_
  unfold Oper.wp execOp
  simp only [ho, resolve, invoke, builtin, Sem.run_bind, Sem.run_pure, Result.andThen_ok, List.map_toArray, List.map_cons, List.map_nil, hs, hx, hr]
  exact hK _ _ h
set_option maxHeartbeats 400000 in
theorem grow_any (k : Nat) (w : World) (h0 : 0 < k) (hk : k ≤ 140737488355328) :
    Calls Tryd.prog 118 #[.slice none 0 0, .int .i64 k] w fun e w' => ∃ cap, e = .returned (.slice (some ⟨w.heap.size, 0, none⟩) 0 cap) ∧ k ≤ cap ∧ cap ≤ maxLen ∧ Below w.heap.size w w' ∧
      w'.ownsRow w.heap.size 5 1 (.slice (some ⟨w.heap.size, 0, none⟩) 0 cap) 0 [] := by
  go_enter Tryd.func118, Tryd.ntmps118
  go_wp2_with (first
    | (at_builtin
       refine wpList_growz rfl (.tmp 20) (.tmp 21) rfl k rfl rfl h0 hk ?_
       intro G w' hge hle hown hbel
       refine hideGoal ?_))
  have Hle : Hid (G ≤ maxLen) := hle
  have hG : G ≤ 9223372036854775807 := by unfold maxLen at hle; omega
  clear hle
  refine openGoal ?_
  go_wp2_with fail
  go_ret
  exact ⟨G, rfl, hge, Hle.out, hbel, hown.out⟩
def catX (xf : Nat → List Int) : Nat → List Int
  | 0 => []
  | k + 1 => catX xf k ++ xf k
theorem catX_mono (xf : Nat → List Int) (i m : Nat) (h : i ≤ m) : (catX xf i).length ≤ (catX xf m).length := by
  induction m with
  | zero => have e : i = 0 := by omega
            subst e; exact Nat.le_refl _
  | succ m ih =>
    rcases Nat.lt_or_ge i (m + 1) with h' | h'
    · have := ih (by omega); simp only [catX, List.length_append]; omega
    · have e : i = m + 1 := by omega
      subst e; exact Nat.le_refl _
theorem catX_bytes (xf : Nat → List Int) (m : Nat) (h : ∀ i, i < m → Bytes (xf i)) : Bytes (catX xf m) := by
  induction m with
  | zero => intro j; simp [catX]
  | succ m ih =>
    refine .of fun x hx => ?_
    simp only [catX, List.mem_append] at hx
    rcases hx with hx | hx
    · exact (ih fun i hi => h i (by omega)).mem x hx
    · exact (h m (by omega)).mem x hx
set_option maxHeartbeats 1000000 in
theorem concat_any (gp m : Nat) (pf : Nat → Option Addr) (nf cf : Nat → Nat) (xf : Nat → List Int) (w : World) (hm : m ≤ 100)
    (hcell : ∀ i, i < m → w.cell? ⟨gp, i, none⟩ = some (.slice (pf i) (nf i) (cf i))) (hin : ∀ i, i < m → In8 w (pf i) (nf i) (cf i) (xf i))
    (hpos : 0 < (catX xf m).length) (htot : (catX xf m).length ≤ 140737488355328) :
    Calls Tryd.prog 97 #[.slice (some ⟨gp, 0, none⟩) m m] w fun e w' => ∃ p n c, e = .returned (.slice p n c) ∧ Below w.heap.size w w' ∧ In8 w' p n c (catX xf m) := by
  have HC : Hid (∀ i, i < m → w.cell? ⟨gp, i, none⟩ = some (.slice (pf i) (nf i) (cf i))) := hcell
  have HI : Hid (∀ i, i < m → In8 w (pf i) (nf i) (cf i) (xf i)) := hin
  clear hcell hin
  go_enter Tryd.func97, Tryd.ntmps97
  go_wp2_with fail
  go_loop [3, 11] (fun v i => ∃ k : Nat, k ≤ m ∧ i = .int .i64 k ∧ v = .int .i64 ((catX xf k).length : Nat)) (fun _ i => m - (intOf i).toNat)
  case atStart => exact ⟨0, by omega, rfl, rfl⟩
  case round =>
    obtain ⟨k, hk, rfl, rfl⟩ := hrel
    by_cases hlt : k < m
    · have hc := HC.out k hlt
      have h1 := catX_mono xf (k + 1) m (by omega)
      have hl := (HI.out k hlt).len
      have hs := (HI.out k hlt).small
      have e1 : (catX xf (k + 1)).length = (catX xf k).length + nf k := by simp only [catX, List.length_append]; omega
      have E1 : Hid ((catX xf (k + 1)).length = (catX xf k).length + nf k) := e1
      rw [e1] at h1
      clear e1
      generalize (catX xf k).length = s at *
      generalize nf k = nk at *
      generalize pf k = pk at *
      generalize cf k = ck at *
      clear hl
      go_wp2_with fail
      go_round
      case rel => exact ⟨k + 1, by omega, by go_num, by rw [E1.out]; go_num⟩
      case measure => simp [intOf]; omega
    · have ek : k = m := by omega
      have Ek : Hid (k = m) := ek
      have ecat : (catX xf k).length = (catX xf m).length := by rw [ek]
      rw [ecat]
      have Hlen : Hid (∀ T, T = catX xf m → T.length = (catX xf m).length) := fun T h => by rw [h]
      clear ecat ek
      generalize hS : (catX xf m).length = S at *
      go_wp2_with fail
      refine (grow_any S w (by omega) (by omega)).mono ?_
      rintro e w1 ⟨cap, rfl, hcap1, hcap2, hb1, ho1⟩
      have HO1 : Hid (w1.ownsRow w.heap.size 5 1 (.slice (some ⟨w.heap.size, 0, none⟩) 0 cap) 0 []) := ho1
      have hcap3 : cap ≤ 9223372036854775807 := by unfold maxLen at hcap2; omega
      clear ho1 hcap2
      go_wp2_with fail
      have hbc : ∀ i, i < m → w1.cell? ⟨gp, i, none⟩ = some (.slice (pf i) (nf i) (cf i)) := fun i hi => by rw [hb1.cell (block_lt_of_cell (HC.out i hi))]; exact HC.out i hi
      go_loopw [6, 27] (fun v i wr => ∃ k : Nat, k ≤ m ∧ i = .int .i64 k ∧ Below w.heap.size w wr ∧ wr.ownsRow w.heap.size 5 1 v (catX xf k).length ((catX xf k).map (Value.int .u8)) ∧ ∃ g c, v = .slice (some ⟨g, 0, none⟩) (catX xf k).length c) (fun _ i _ => m - (intOf i).toNat)
      case atStart => exact ⟨0, by omega, rfl, hb1, HO1.out, _, _, rfl⟩
      case round =>
        obtain ⟨k, hk, rfl, hb, ho, g, c, rfl⟩ := hrel
        have HO : Hid _ := ho
        clear ho hbc HO1 hb1
        by_cases hlt : k < m
        · have hc : wr.cell? ⟨gp, k, none⟩ = some (.slice (pf k) (nf k) (cf k)) := by rw [hb.cell (block_lt_of_cell (HC.out k hlt))]; exact HC.out k hlt
          have h1 := catX_mono xf (k + 1) m (by omega)
          have hI : Hid (In8 wr (pf k) (nf k) (cf k) (xf k)) := (HI.out k hlt).below hb
          have hl := hI.out.len
          have E1 : Hid ((catX xf (k + 1)).length = (catX xf k).length + nf k) := by
            show _ = _
            simp only [catX, List.length_append]; omega
          rw [E1.out, hS] at h1
          have h63 := hI.out.small
          have hS' : Hid ((catX xf m).length = S) := hS
          clear hS Hlen
          by_cases hz : 0 < nf k
          · obtain ⟨gs, off, hp, hgs, hcs⟩ := hI.out.lies (by omega)
            have HCS : Hid (∀ j, j < nf k → wr.cell? ((⟨gs, off, none⟩ : Addr).add j) = some (.int .u8 ((xf k).getD j 0))) := fun j hj => by
              rw [addr_add]; exact hcs j (by omega)
            clear hcs
            rw [hp] at hc
            have hBs : w.heap.size ≤ wr.heap.size := hb.size
            generalize hs : (catX xf k).length = s at *
            generalize hnk : nf k = nk at *
            generalize cf k = ck at *
            go_wp2_with (first
              | (at_builtin
                 refine wpList_app8 rfl (.tmp 31) (.tmp 32) rfl w.heap.size (.slice (some ⟨g, 0, none⟩) s c) (catX xf k) s rfl HO.out ⟨gs, off, none⟩ nk ck (xf k) rfl hl HCS.out hz (by omega) hBs ?_
                 intro v2 w2 ho2 hs2 hb2
                 refine hideGoal ?_))
            have HO2 : Hid (w2.ownsRow w.heap.size 5 1 v2 (s + nk) ((catX xf k ++ xf k).map (Value.int .u8))) := ho2
            have hb3 := hb2 w hb
            clear ho2 hb2
            refine openGoal ?_
            go_wp2_with fail
            go_roundw
            case rel =>
              obtain ⟨g2, c2, hv2, _, _⟩ := HO2.out.form (by omega)
              refine ⟨k + 1, by omega, by go_num, hb3, ?_, g2, c2, ?_⟩
              · rw [E1.out]; exact HO2.out
              · rw [E1.out]; exact hv2
            case measure => simp [intOf]; omega
          · have hz0 : nf k = 0 := by omega
            have hx0 : xf k = [] := List.length_eq_zero_iff.1 (by omega)
            have Hx0 : Hid (catX xf (k + 1) = catX xf k) := by
              show catX xf k ++ xf k = _
              rw [hx0, List.append_nil]
            have hcap := HO.out.2
            rw [hz0] at hc
            have hfit : (catX xf k).length ≤ c := by
              rcases HO.out.2 with ⟨h, _⟩ | ⟨g', cap', cur, h, _, _, h2, _⟩
              · cases h
              · cases h; exact h2
            clear hcap hz0 hx0
            generalize hs : (catX xf k).length = s at *
            generalize cf k = ck at *
            generalize pf k = pk at *
            go_wp2_with (first
              | (at_builtin
                 refine wpList_app_none rfl (.tmp 31) (.tmp 32) rfl (some ⟨g, 0, none⟩) pk s c ck rfl rfl hfit ?_))
            go_roundw
            case rel =>
              refine ⟨k + 1, by omega, by go_num, hb, ?_, g, c, ?_⟩
              · rw [Hx0.out, hs]; exact HO.out
              · rw [Hx0.out, hs]
            case measure => simp [intOf]; omega
        · have ek : k = m := by omega
          subst ek
          have hlen : (catX xf k).length = S := hS
          have hby : Bytes (catX xf k) := catX_bytes xf k (fun i hi => (HI.out i hi).bytes)
          clear hS Hlen Ek
          generalize hT : catX xf k = T at *
          have HT : Hid (catX xf k = T) := hT
          clear hT
          rw [hlen]
          obtain ⟨g', cap', hv, hg1, hg2, hfit, hmost, _, hcells⟩ := owns8 HO.out (by omega)
          cases hv
          have HI8 : Hid (In8 wr (some ⟨g, 0, none⟩) S c T) := by
            refine ⟨hlen, hby, by omega, by unfold maxLen at hmost; omega, by omega, fun _ => ⟨g, 0, rfl, hg2, fun j hj => ?_⟩⟩
            rw [Nat.zero_add]; exact hcells j (by omega)
          clear hcells hmost
          go_wp2_with fail
          go_ret
          exact ⟨_, _, _, rfl, hb, by rw [HT.out]; exact HI8.out⟩
end Go.Proofs.YtcmjlhcpoajbkaaDoor
namespace Go.Proofs.YtcmjlhcpoajbkaaDoor
set_option maxRecDepth 10000
open Go.RowKit
/-- A digest in a block of its own. -/
structure Dg (w : World) (g : Nat) (D : List Int) : Prop where
  len : D.length = 32
  here : w.heap[g]? = some (.cells (A8 D) 25)
theorem Dg.lt {w : World} {g : Nat} {D : List Int} (h : Dg w g D) : g < w.heap.size := row_lt h.here
theorem Dg.below {w w' : World} {g n : Nat} {D : List Int} (h : Dg w g D) (hb : Below n w w') (hn : g < n) : Dg w' g D := ⟨h.len, (hb.block g hn).trans h.here⟩
theorem Dg.next {w w' : World} {g : Nat} {D : List Int} (h : Dg w g D) (hb : Below w.heap.size w w') : Dg w' g D := h.below hb h.lt
theorem Dg.other {w W : World} {g g' : Nat} {D : List Int} {c : Array Value} {t : TypeId} (h : Dg w g D) (hS : Stored w W g' c t) (hne : g ≠ g') : Dg W g D := ⟨h.len, (hS.other g hne).trans h.here⟩
theorem Stored.dg {w W : World} {g : Nat} {D : List Int} (hS : Stored w W g (A8 D) 25) (hl : D.length = 32) : Dg W g D := ⟨hl, hS.here⟩
def Z32 : List Int := List.replicate 32 0
theorem Dg.new (w : World) (g : Nat) (h : g = w.heap.size) : Dg (w.alloc (.cells Z8x32 25)) g Z32 := ⟨rfl, heapN w _ _ h⟩
theorem wpList_w {P : Program} {ops : Array Oper} {rest : List Oper} {o : Oper} {a : Act} {w : World} {Q : Exit → Act → World → Prop} (hw : Region.wanted o (yielded ops a.tmps) = true)
    (h : ∀ K : Act → World → Prop, (∀ a w, wpList P ops Q rest a w → K a w) → o.wp P a w K Q) : wpList P ops Q (o :: rest) a w := by
  unfold wpList
  simp only [hw, if_true]
  exact .inl (h _ fun _ _ h => h)
section
variable {ops : Array Oper} {rest : List Oper} {o : Oper} {a : Act} {w : World} {Q : Exit → Act → World → Prop} {S : World → Prop}
theorem load_D (hw : Region.wanted o (yielded ops a.tmps) = true) (x : Operand) (ho : o.op = .load 25 x) (g : Nat) (hx : a.eval x = .pointer (some ⟨g, 0, none⟩)) (D : List Int) (h0 : Dg w g D)
    (h : wpList Tryd.prog ops Q rest (a.put o.dst (.agg (A8 D))) w) : wpList Tryd.prog ops Q (o :: rest) a w :=
  wpList_w hw fun _ hK => wp_load_row 25 x ho g hx 25 (A8 D) (0, 0) (.array 32 5) h0.here und25 rfl (by rw [info25, A8_size, h0.len]) (hK _ _ h)
theorem store_D (hgd : o.guard = none) (x y : Operand) (ho : o.op = .store 25 x y) (g : Nat) (D : List Int) (hx : a.eval x = .pointer (some ⟨g, 0, none⟩)) (hy : a.eval y = .agg (A8 D)) (D0 : List Int) (h0 : Dg w g D0) (hl : D.length = 32)
    (h : ∀ W, Stored w W g (A8 D) 25 → wpList Tryd.prog ops Q rest (a.put o.dst undef) W) : wpList Tryd.prog ops Q (o :: rest) a w :=
  wpList_store_W hgd 25 x y ho g (A8 D) hx hy 25 (A8 D0) h0.here (by rw [info25, A8_size, hl]) (by rw [A8_size, A8_size, h0.len, hl]) (A8_one _) h
theorem wpOp_load_D {i : Nat} {K : Act → World → Prop} (hi : ops[i]? = some o) (hgd : o.guard = none) (x : Operand) (ho : o.op = .load 25 x) (g : Nat) (hx : a.eval x = .pointer (some ⟨g, 0, none⟩)) (D : List Int) (h0 : Dg w g D)
    (h : K (a.put o.dst (.agg (A8 D))) w) : wpOp Tryd.prog ops Q i K a w :=
  wpOp_load_row hi hgd 25 x ho g hx 25 (A8 D) (0, 0) (.array 32 5) h0.here und25 rfl (by rw [info25, A8_size, h0.len]) h
theorem wpOp_store_D {i : Nat} {K : Act → World → Prop} (hi : ops[i]? = some o) (hgd : o.guard = none) (x y : Operand) (ho : o.op = .store 25 x y) (g : Nat) (D : List Int) (hx : a.eval x = .pointer (some ⟨g, 0, none⟩)) (hy : a.eval y = .agg (A8 D)) (D0 : List Int) (h0 : Dg w g D0) (hl : D.length = 32)
    (h : ∀ W, Stored w W g (A8 D) 25 → K (a.put o.dst undef) W) : wpOp Tryd.prog ops Q i K a w :=
  wpOp_store_W hi hgd 25 x y ho g (A8 D) hx hy 25 (A8 D0) h0.here (by rw [info25, A8_size, hl]) (by rw [A8_size, A8_size, h0.len, hl]) (A8_one _) h
theorem yields_D (hw : Region.wanted o (yielded ops a.tmps) = true) (x : Operand) (ho : o.op = .load 25 x) (g : Nat) (hx : a.eval x = .pointer (some ⟨g, 0, none⟩)) (D : List Int) (hl : D.length = 32) (hS : ∀ w, S w → Dg w g D) : YieldsIf Tryd.prog ops S o (.agg (A8 D)) a :=
  yieldsIf_rowG hw 25 x ho g hx 25 (A8 D) (0, 0) (.array 32 5) (fun w h => (hS w h).here) und25 rfl (by rw [info25, A8_size, hl])
end
theorem relist {P : Program} {ops : Array Oper} {Q : Exit → Act → World → Prop} {md : Region.Mode} {S : World → Prop} {fuel : Nat} {listed : Array Bool} {a : Act} {w : World} (listed' : Array Bool) (hl : listed = listed')
    (h : wpAnyH P md ops Q S fuel listed' a w) : wpAnyH P md ops Q S fuel listed a w := by subst hl; exact h
/-- The hash of both sides. -/
def hP (xs : List Int) : List Int := hashP KS HS xs
theorem hP_len (xs : List Int) : (hP xs).length = 32 := hashP_len _ _ _
theorem hP_bytes (xs : List Int) : Bytes (hP xs) := hashP_bytes _ _ _
theorem hP_any (w : World) (hT : Tabs KS HS w) (p : Option Addr) (n cap : Nat) (xs : List Int) (hi : In8 w p n cap xs) :
    Calls Tryd.prog 54 #[.slice p n cap] w fun e w' => e = .returned (.agg (A8 (hP xs))) ∧ Below w.heap.size w w' := hash_any KS HS w hT p n cap xs hi
def leafP (xs : List Int) : List Int := hP (0 :: xs)
def knotP (L R : List Int) : List Int := hP (1 :: (L ++ R))
theorem leafP_len (xs : List Int) : (leafP xs).length = 32 := hP_len _
theorem knotP_len (L R : List Int) : (knotP L R).length = 32 := hP_len _
theorem leafP_bytes (xs : List Int) : Bytes (leafP xs) := hP_bytes _
theorem knotP_bytes (L R : List Int) : Bytes (knotP L R) := hP_bytes _
def leafCells (p : Option Addr) (n c : Nat) : Array Value := (Value.slice p n c :: List.replicate 64 (Value.int .u8 0)).toArray
theorem build_leaf (p : Option Addr) (n c : Nat) (w : World) : (Instr.build 184 #[(0, .slice p n c)]).run Tryd.prog w = .ok (.agg (leafCells p n c)) w := by
  kernel_rfl
def knotCells (L R : List Int) : Array Value := (Value.slice none 0 0 :: ((L ++ R).map (Value.int .u8))).toArray
theorem list32 (L : List Int) (h : L.length = 32) : ∃ x0 x1 x2 x3 x4 x5 x6 x7 x8 x9 x10 x11 x12 x13 x14 x15 x16 x17 x18 x19 x20 x21 x22 x23 x24 x25 x26 x27 x28 x29 x30 x31, L = [x0, x1, x2, x3, x4, x5, x6, x7, x8, x9, x10, x11, x12, x13, x14, x15, x16, x17, x18, x19, x20, x21, x22, x23, x24, x25, x26, x27, x28, x29, x30, x31] := by
  match L, h with
  | [x0, x1, x2, x3, x4, x5, x6, x7, x8, x9, x10, x11, x12, x13, x14, x15, x16, x17, x18, x19, x20, x21, x22, x23, x24, x25, x26, x27, x28, x29, x30, x31], _ => exact ⟨_, _, _, _, _, _, _, _, _, _, _, _, _, _, _, _, _, _, _, _, _, _, _, _, _, _, _, _, _, _, _, _, rfl⟩
theorem build_knot (L R : List Int) (hL : L.length = 32) (hR : R.length = 32) (w : World) : (Instr.build 184 #[(1, .agg (A8 L)), (2, .agg (A8 R))]).run Tryd.prog w = .ok (.agg (knotCells L R)) w := by
  obtain ⟨x0, x1, x2, x3, x4, x5, x6, x7, x8, x9, x10, x11, x12, x13, x14, x15, x16, x17, x18, x19, x20, x21, x22, x23, x24, x25, x26, x27, x28, x29, x30, x31, rfl⟩ := list32 L hL
  obtain ⟨y0, y1, y2, y3, y4, y5, y6, y7, y8, y9, y10, y11, y12, y13, y14, y15, y16, y17, y18, y19, y20, y21, y22, y23, y24, y25, y26, y27, y28, y29, y30, y31, rfl⟩ := list32 R hR
  kernel_rfl
end Go.Proofs.YtcmjlhcpoajbkaaDoor
