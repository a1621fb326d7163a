import Derived.Test.YtcmjlhcpoajbkaaDoorKnot
namespace Go.Proofs.YtcmjlhcpoajbkaaDoor
set_option maxRecDepth 10000
open Go.RowKit
theorem toI_cons (b : UInt8) (l : List UInt8) : toI (b :: l) = (b.toNat : Int) :: toI l := rfl
set_option maxHeartbeats 400000 in
theorem refLeaf_any (w : World) (l : List UInt8) (xs : List Int) (hx : toI l = xs) (hl : l.length ≤ 140737488355400) :
    Calls Tryd.prog 94 #[.string ⟨l.toArray⟩] w fun e w' => e = .returned (.agg (A8 (leafP xs))) ∧ Below w.heap.size w w' := by
  have hb0 : Below w.heap.size w (w.alloc (.cells Z8x32 25)) := (Below.refl _ _).alloc (Nat.le_refl _) _
  have d0 : Hid (Dg (w.alloc (.cells Z8x32 25)) w.heap.size Z32) := Dg.new w _ rfl
  have hsz : (ByteArray.mk l.toArray).size = l.length := by show l.toArray.size = _; simp
  go_enter Tryd.func94, Tryd.ntmps94
  go_wp2_with fail
  refine (ref_any _ (0 :: l) (0 :: xs) (ByteArray.mk_append_mk [0] l) (by rw [toI_cons, hx]; rfl) _ (by simp; omega)).mono ?_
  rintro e w2 ⟨rfl, b2⟩
  have d2 : Hid (Dg w2 w.heap.size Z32) := d0.out.next b2
  have B2 : Below w.heap.size w w2 := hb0.trans (b2.mono (by simp))
  have hl := leafP_len xs
  have e1 : hP (0 :: xs) = leafP xs := rfl
  rw [e1]
  clear b2 d0 e1
  obtain ⟨D, hD⟩ : ∃ D, leafP xs = D := ⟨_, rfl⟩
  have HD : Hid (leafP xs = D) := hD
  rw [hD] at hl ⊢
  clear hD
  go_wp2_with (first
    | (with_reducible refine atStore 25 ?_
       refine store_D rfl (.tmp 2) (.tmp 5) rfl w.heap.size D rfl rfl Z32 d2.out hl ?_
       intro U hU))
  exact bodyPost_ret (v := .agg (A8 D)) (results_cell_row rfl _ _ w.heap.size 25 _ (0, 0) _ rfl hU.here und25 rfl (by rw [info25, A8_size, hl])) rfl ⟨by rw [HD.out], hU.below _ _ (Nat.le_refl _) B2⟩
set_option maxHeartbeats 1000000 in
theorem refKnot_any (w : World) (L R : List Int) (hL : L.length = 32) (hR : R.length = 32) (bL : Bytes L) (bR : Bytes R) :
    Calls Tryd.prog 96 #[.agg (A8 L), .agg (A8 R)] w fun e w' => e = .returned (.agg (A8 (knotP L R))) ∧ Below w.heap.size w w' := by
  have hb0 := below3 w (.cells (A8 L) 25) (.cells (A8 R) 25) (.cells Z8x32 25)
  have V0 := heap3 w (.cells (A8 L) 25) (.cells (A8 R) 25) (.cells Z8x32 25)
  have dL : Dg (((w.alloc (.cells (A8 L) 25)).alloc (.cells (A8 R) 25)).alloc (.cells Z8x32 25)) w.heap.size L := ⟨hL, V0.1⟩
  have dR : Dg (((w.alloc (.cells (A8 L) 25)).alloc (.cells (A8 R) 25)).alloc (.cells Z8x32 25)) (w.heap.size + 1) R := ⟨hR, V0.2.1⟩
  have d0 : Dg (((w.alloc (.cells (A8 L) 25)).alloc (.cells (A8 R) 25)).alloc (.cells Z8x32 25)) (w.heap.size + 1 + 1) Z32 := ⟨rfl, V0.2.2⟩
  clear V0
  go_enter Tryd.func96, Tryd.ntmps96
  go_wp2_with fail
  obtain ⟨V, hV⟩ : ∃ V, V = ((w.alloc (.cells (A8 L) 25)).alloc (.cells (A8 R) 25)).alloc (.cells Z8x32 25) := ⟨_, rfl⟩
  rw [← hV] at hb0 dL dR d0
  have bV : Below V.heap.size V V.drew := (Below.refl _ _).drew
  have ltL := dL.lt
  have ltR := dR.lt
  have lt0 := d0.lt
  have hwV : w.heap.size ≤ V.heap.size := hb0.size
  have S0 : Dg V.drew w.heap.size L ∧ Dg V.drew (w.heap.size + 1) R := ⟨⟨dL.len, dL.here⟩, ⟨dR.len, dR.here⟩⟩
  refine wp_region_noPanic ?_
  refine wp_region_held (S := fun W => Dg W w.heap.size L ∧ Dg W (w.heap.size + 1) R) follows ?_
  refine wpAnyH_take (i := 0) (v := .agg (A8 L)) rfl (by kernel_rfl) (by kernel_rfl) (by kernel_rfl) (fun _ _ _ h => h) (yields_D rfl (.tmp 2) rfl w.heap.size rfl L hL (fun W hW => hW.1)) (hV ▸ S0) ?_
  refine wpAnyH_take (i := 3) (v := .agg (A8 R)) rfl (by kernel_rfl) (by kernel_rfl) (by kernel_rfl) (fun _ _ _ h => h) (yields_D rfl (.tmp 3) rfl (w.heap.size + 1) rfl R hR (fun W hW => hW.2)) (hV ▸ S0) ?_
  generalize hg : w.heap.size = g at *
  refine reframe #[true, false, false, true, false, false, false, false] { tmps := #[.agg (A8 L), .agg (A8 R), .pointer (some ⟨g, 0, none⟩), .pointer (some ⟨g + 1, 0, none⟩), .pointer (some ⟨g + 1 + 1, 0, none⟩), .agg (A8 L), undef, undef, .agg (A8 R), undef, undef, undef], defers := [] } (by kernel_rfl) (by rfl) ?_
  refine any_one (i := 1) (by kernel_rfl) ?_
  refine wpOp_call (f := 60) (args := #[.agg (A8 L)]) rfl rfl (by go_simp) ?_
  refine (text_any L _ hL).mono ?_
  rintro e w1 ⟨rfl, b1⟩
  have B1 : Below V.heap.size V w1 := bV.trans (show Below V.heap.size V.drew w1 by rw [hV]; exact b1)
  clear b1
  have S1 := And.intro (dL.below B1 ltL) (dR.below B1 ltR)
  refine ⟨_, rfl, S1, ?_⟩
  have hsL : (ByteArray.mk (toU L).toArray).size = 32 := by show (toU L).toArray.size = _; simp [toU_len, hL]
  have hsR : (ByteArray.mk (toU R).toArray).size = 32 := by show (toU R).toArray.size = _; simp [toU_len, hR]
  have eA : (ByteArray.mk #[1]) ++ (ByteArray.mk (toU L).toArray) = ByteArray.mk (1 :: toU L).toArray := ByteArray.mk_append_mk [1] (toU L)
  have eB : (ByteArray.mk (1 :: toU L).toArray) ++ (ByteArray.mk (toU R).toArray) = ByteArray.mk (1 :: toU L ++ toU R).toArray := ByteArray.mk_append_mk (1 :: toU L) (toU R)
  have hsA : (ByteArray.mk (1 :: toU L).toArray).size = 33 := by show (1 :: toU L).toArray.size = _; simp [toU_len, hL]
  refine reframe #[true, true, false, true, false, false, false, false] { tmps := #[.agg (A8 L), .agg (A8 R), .pointer (some ⟨g, 0, none⟩), .pointer (some ⟨g + 1, 0, none⟩), .pointer (some ⟨g + 1 + 1, 0, none⟩), .agg (A8 L), .string ⟨(toU L).toArray⟩, undef, .agg (A8 R), undef, undef, undef], defers := [] } (by kernel_rfl) (by rfl) ?_
  refine wpAnyH_take (i := 2) (v := .string ⟨(1 :: toU L).toArray⟩) rfl (by kernel_rfl) (by kernel_rfl) (by kernel_rfl) (fun _ _ _ h => h) (.inl ⟨rfl, fun W _ => by go_simp⟩) S1 ?_
  refine reframe #[true, true, true, true, false, false, false, false] { tmps := #[.agg (A8 L), .agg (A8 R), .pointer (some ⟨g, 0, none⟩), .pointer (some ⟨g + 1, 0, none⟩), .pointer (some ⟨g + 1 + 1, 0, none⟩), .agg (A8 L), .string ⟨(toU L).toArray⟩, .string ⟨(1 :: toU L).toArray⟩, .agg (A8 R), undef, undef, undef], defers := [] } (by kernel_rfl) (by rfl) ?_
  refine any_one (i := 4) (by kernel_rfl) ?_
  refine wpOp_call (f := 60) (args := #[.agg (A8 R)]) rfl rfl (by go_simp) ?_
  refine (text_any R _ hR).mono ?_
  rintro e w2 ⟨rfl, b2⟩
  have B2 : Below V.heap.size V w2 := B1.trans (b2.mono B1.size)
  clear b2 B1
  have S2 := And.intro (dL.below B2 ltL) (dR.below B2 ltR)
  refine ⟨_, rfl, S2, ?_⟩
  refine reframe #[true, true, true, true, true, false, false, false] { tmps := #[.agg (A8 L), .agg (A8 R), .pointer (some ⟨g, 0, none⟩), .pointer (some ⟨g + 1, 0, none⟩), .pointer (some ⟨g + 1 + 1, 0, none⟩), .agg (A8 L), .string ⟨(toU L).toArray⟩, .string ⟨(1 :: toU L).toArray⟩, .agg (A8 R), .string ⟨(toU R).toArray⟩, undef, undef], defers := [] } (by kernel_rfl) (by rfl) ?_
  refine wpAnyH_take (i := 5) (v := .string ⟨(1 :: toU L ++ toU R).toArray⟩) rfl (by kernel_rfl) (by kernel_rfl) (by kernel_rfl) (fun _ _ _ h => h) (.inl ⟨rfl, fun W _ => by go_simp⟩) S2 ?_
  refine reframe #[true, true, true, true, true, true, false, false] { tmps := #[.agg (A8 L), .agg (A8 R), .pointer (some ⟨g, 0, none⟩), .pointer (some ⟨g + 1, 0, none⟩), .pointer (some ⟨g + 1 + 1, 0, none⟩), .agg (A8 L), .string ⟨(toU L).toArray⟩, .string ⟨(1 :: toU L).toArray⟩, .agg (A8 R), .string ⟨(toU R).toArray⟩, .string ⟨(1 :: toU L ++ toU R).toArray⟩, undef], defers := [] } (by kernel_rfl) (by rfl) ?_
  refine any_one (i := 6) (by kernel_rfl) ?_
  refine wpOp_call (f := 19) (args := #[.string ⟨(1 :: toU L ++ toU R).toArray⟩]) rfl rfl (by go_simp) ?_
  refine (ref_any _ (1 :: toU L ++ toU R) (1 :: (L ++ R)) rfl (by rw [toI_append, toI_cons, toI_toU L bL, toI_toU R bR]; rfl) _ (by simp [toU_len]; omega)).mono ?_
  rintro e w3 ⟨rfl, b3⟩
  have B3 : Below V.heap.size V w3 := B2.trans (b3.mono B2.size)
  clear b3 B2
  have S3 := And.intro (dL.below B3 ltL) (dR.below B3 ltR)
  refine ⟨_, rfl, S3, ?_⟩
  have hl := knotP_len L R
  have e1 : hP (1 :: (L ++ R)) = knotP L R := rfl
  rw [e1]
  obtain ⟨D, hD⟩ : ∃ D, knotP L R = D := ⟨_, rfl⟩
  have HD : Hid (knotP L R = D) := hD
  rw [hD] at hl ⊢
  clear hD
  have d3 := d0.below B3 lt0
  refine reframe #[true, true, true, true, true, true, true, false] { tmps := #[.agg (A8 L), .agg (A8 R), .pointer (some ⟨g, 0, none⟩), .pointer (some ⟨g + 1, 0, none⟩), .pointer (some ⟨g + 1 + 1, 0, none⟩), .agg (A8 L), .string ⟨(toU L).toArray⟩, .string ⟨(1 :: toU L).toArray⟩, .agg (A8 R), .string ⟨(toU R).toArray⟩, .string ⟨(1 :: toU L ++ toU R).toArray⟩, .agg (A8 D)], defers := [] } (by kernel_rfl) (by rfl) ?_
  refine any_one (i := 7) (by kernel_rfl) ?_
  refine wpOp_store_D rfl rfl (.tmp 4) (.tmp 11) rfl (g + 1 + 1) D rfl rfl Z32 d3 hl ?_
  intro U hU
  have HB : Hid (Below g w U) := hU.below _ _ (by omega) (hb0.trans (B3.mono hwV))
  refine ⟨⟨S3.1.other hU (by omega), S3.2.other hU (by omega)⟩, ?_⟩
  refine reframe #[true, true, true, true, true, true, true, true] { tmps := #[.agg (A8 L), .agg (A8 R), .pointer (some ⟨g, 0, none⟩), .pointer (some ⟨g + 1, 0, none⟩), .pointer (some ⟨g + 1 + 1, 0, none⟩), .agg (A8 L), .string ⟨(toU L).toArray⟩, .string ⟨(1 :: toU L).toArray⟩, .agg (A8 R), .string ⟨(toU R).toArray⟩, .string ⟨(1 :: toU L ++ toU R).toArray⟩, .agg (A8 D)], defers := [] } (by kernel_rfl) (by rfl) ?_
  refine wpAnyH_done (by kernel_rfl) ?_ _
  refine NoPanic.normal ?_
  have hUh : Hid (U.heap[g + 1 + 1]? = _) := hU.here
  clear hU S1 S2 S3 d3 B3 hb0 bV dL dR d0 eA eB
  go_wp2_with fail
  exact bodyPost_ret (v := .agg (A8 D)) (results_cell_row rfl _ _ (g + 1 + 1) 25 _ (0, 0) _ rfl hUh.out und25 rfl (by rw [info25, A8_size, hl])) rfl ⟨by rw [HD.out], by rw [hg]; exact HB.out⟩
end Go.Proofs.YtcmjlhcpoajbkaaDoor
