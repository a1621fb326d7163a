import Derived.Test.YtcmjlhcpoajbkaaDoorRh
namespace Go.Proofs.YtcmjlhcpoajbkaaDoor
set_option maxRecDepth 10000
open Go.RowKit
/-- The document's hash. -/
def refHashP (l : List UInt8) : List Int := dbytes (hst KS HS (toI (padB l 8)) ((padB l 8).length / 64))
theorem refHashP_len (l : List UInt8) : (refHashP l).length = 32 := dbytes_len _
theorem refHash_p (l : List UInt8) (w : World) (hl : l.length ≤ 140737488355500) :
    Calls Tryd.prog 19 #[.string ⟨l.toArray⟩] w fun e w' => e = .returned (.agg (A8 (refHashP l))) ∧ Below w.heap.size w w' := refHash_any l w hl
theorem refHash_b (t : ByteArray) (l : List UInt8) (ht : t = ⟨l.toArray⟩) (w : World) (hl : l.length ≤ 140737488355500) :
    Calls Tryd.prog 19 #[.string t] w fun e w' => e = .returned (.agg (A8 (refHashP l))) ∧ Below w.heap.size w w' := by
  subst ht; exact refHash_p l w hl
def kbyte (kk : List UInt8) (i : Nat) : Int := (toI kk).getD i 0
def mbyte (kk : List UInt8) (m : Int) (i : Nat) : UInt8 := UInt8.ofNat (bits .xor .u8 (kbyte kk i) m).toNat
def maskU (kk : List UInt8) (m : Int) (n : Nat) : List UInt8 := (List.range n).map (mbyte kk m)
theorem maskU_step (kk : List UInt8) (m : Int) (n : Nat) : maskU kk m (n + 1) = maskU kk m n ++ [mbyte kk m n] := by simp [maskU, List.range_succ]
theorem maskU_len (kk : List UInt8) (m : Int) (n : Nat) : (maskU kk m n).length = n := by simp [maskU]
theorem conv_w (b : Int) (w : World) :
    (convert 22 9 (.slice (some ⟨w.heap.size, 0, none⟩) 1 1)).run Tryd.prog (w.alloc (.cells #[.int .u8 b] 5)) = .ok (.string ⟨#[UInt8.ofNat b.toNat]⟩) (w.alloc (.cells #[.int .u8 b] 5)) := conv_one b _ w rfl
theorem conv_w2 (b c : Int) (w : World) :
    (convert 22 9 (.slice (some ⟨w.heap.size + 1, 0, none⟩) 1 1)).run Tryd.prog ((w.alloc (.cells #[.int .u8 c] 5)).alloc (.cells #[.int .u8 b] 5)) = .ok (.string ⟨#[UInt8.ofNat b.toNat]⟩) ((w.alloc (.cells #[.int .u8 c] 5)).alloc (.cells #[.int .u8 b] 5)) := by
  have := conv_w b (w.alloc (.cells #[.int .u8 c] 5))
  simpa using this
def kkU (key : List UInt8) : List UInt8 := if 64 < key.length then toU (refHashP key) else key
def refTagP (key data : List UInt8) : List Int := refHashP (maskU (kkU key) 92 64 ++ toU (refHashP (maskU (kkU key) 54 64 ++ data)))
set_option maxHeartbeats 1000000 in
theorem refTag_any (key data : List UInt8) (w : World) (hk : key.length ≤ 140737488355400) (hd : data.length ≤ 140737488355400) :
    Calls Tryd.prog 20 #[.string ⟨key.toArray⟩, .string ⟨data.toArray⟩] w fun e w' => e = .returned (.agg (A8 (refTagP key data))) ∧ Below w.heap.size w w' := by
  by_cases h64 : 64 < key.length
  · have hkk : kkU key = toU (refHashP key) := by unfold kkU; rw [if_pos h64]
    have hHl := refHashP_len key
    have hb0 : Below w.heap.size w (w.alloc (.cells Z8x32 25)) := (Below.refl _ _).alloc (Nat.le_refl _) _
    go_enter Tryd.func20, Tryd.ntmps20
    go_wp2_with fail
    refine (refHash_p key _ (by omega)).mono ?_
    rintro e wa ⟨rfl, hba⟩
    generalize refHashP key = DK at *
    have za : Hid (wa.heap[w.heap.size]? = _) := (hba.block w.heap.size (by simp)).trans (heapN w _ _ rfl)
    have bba := hb0.trans (hba.mono (by simp))
    have hsa : w.heap.size < wa.heap.size := row_lt za.out
    clear hba hb0
    go_wp2_with (first
      | (with_reducible refine atStore 25 ?_
         refine wpList_store_W rfl 25 (.tmp 6) (.tmp 17) rfl wa.heap.size (A8 DK) rfl rfl 25 Z8x32 ?_ (by rw [info25, A8_size, hHl]) (by rw [A8_size, hHl]; rfl) (A8_one _) ?_
         · exact heapN wa _ _ rfl
         intro UA hUA
         refine hideGoal ?_))
    have uza : Hid (UA.heap[w.heap.size]? = _) := ((hUA.other w.heap.size (by omega)).trans (heapO wa _ _ (by omega))).trans za.out
    have uba := hUA.below _ _ (by omega) (bba.alloc (by omega) _)
    have uga : Hid (UA.heap[wa.heap.size]? = _) := hUA.here
    have usa : w.heap.size < UA.heap.size := by rw [hUA.size]; simp; omega
    clear hUA za bba
    generalize wa.heap.size = ga at *
    refine openGoal ?_
    go_wp2_with (first
      | (with_reducible refine atLoad 25 ?_
         refine wpList_load_row rfl 25 (.tmp 6) rfl ga rfl 25 (A8 DK) (0, 0) (.array 32 5) uga.out und25 rfl (by rw [info25, A8_size, hHl]) ?_))
    refine (text_any DK UA hHl).mono ?_
    rintro e wb ⟨rfl, hbb⟩
    have zb : Hid (wb.heap[w.heap.size]? = _) := (hbb.block w.heap.size usa).trans uza.out
    have bbb := uba.trans (hbb.mono (by omega))
    have hkl0 : (toU DK).length ≤ 64 := by rw [toU_len, hHl]; omega
    generalize toU DK = kk at *
    have HKU : Hid (kkU key = kk) := hkk
    have hkl : kk.length ≤ 64 := hkl0
    clear hkk hbb uga uza uba hHl hkl0 hk h64
    go_wp2_with fail
    go_loopw [7, 8, 9] (fun vi vo i wr => ∃ (j : Nat) (ti tu : ByteArray), j ≤ 64 ∧ i = .int .i64 j ∧ vi = .string ti ∧ vo = .string tu ∧ ti = ⟨(maskU kk 54 j).toArray⟩ ∧ tu = ⟨(maskU kk 92 j).toArray⟩ ∧ Below w.heap.size w wr ∧ wr.heap[w.heap.size]? = some (.cells Z8x32 25)) (fun _ _ i _ => 64 - (intOf i).toNat)
    case atStart => exact ⟨0, _, _, by omega, rfl, rfl, rfl, rfl, rfl, bbb, zb.out⟩
    case round =>
      clear bbb zb
      obtain ⟨j, ti, tu, hj, rfl, rfl, rfl, hti, htu, hb, hz⟩ := hrel
      have Hti : Hid (ti = _) := hti
      have Htu : Hid (tu = _) := htu
      have Hz : Hid (wr.heap[w.heap.size]? = _) := hz
      have hsi : ti.size = j := by rw [hti]; exact maskU_len kk 54 j
      have hso : tu.size = j := by rw [htu]; exact maskU_len kk 92 j
      have hzl : w.heap.size < wr.heap.size := row_lt hz
      have HSI : Hid _ := hsi
      have HSO : Hid _ := hso
      have hsi2 : ti.size ≤ 64 := by omega
      have hso2 : tu.size ≤ 64 := by omega
      clear hti htu hz hsi hso
      have cv1 : ∀ b : Int, _ := fun b => conv_w b wr
      have cv2 : ∀ b c : Int, _ := fun b c => conv_w2 b c wr
      by_cases hj64 : j < 64
      · have HM1 : Hid (maskU kk 54 (j + 1) = maskU kk 54 j ++ [mbyte kk 54 j]) := maskU_step kk 54 j
        have HM2 : Hid (maskU kk 92 (j + 1) = maskU kk 92 j ++ [mbyte kk 92 j]) := maskU_step kk 92 j
        by_cases hjk : j < kk.length
        · have HB : Hid (kbyte kk j = ((kk[j]).toNat : Int)) := toI_get kk j hjk
          go_wp2_with fail
          go_roundw
          case rel =>
            refine ⟨j + 1, _, _, by omega, by go_num, rfl, rfl, ?_, ?_, (hb.alloc (by omega) _).alloc (by simp; omega) _, ?_⟩
            · rw [Hti.out, HM1.out, mbyte, HB.out]; exact ByteArray.mk_append_mk (maskU kk 54 j) [_]
            · rw [Htu.out, HM2.out, mbyte, HB.out]; exact ByteArray.mk_append_mk (maskU kk 92 j) [_]
            · exact (heapO _ _ _ (by simp; omega)).trans ((heapO _ _ _ hzl).trans Hz.out)
          case measure => simp [intOf]; omega
        · have HB : Hid (kbyte kk j = 0) := by
            show (toI kk).getD j 0 = 0
            rw [List.getD_eq_getElem?_getD, List.getElem?_eq_none (by rw [toI_len]; omega)]; rfl
          go_wp2_with fail
          go_roundw
          case rel =>
            refine ⟨j + 1, _, _, by omega, by go_num, rfl, rfl, ?_, ?_, (hb.alloc (by omega) _).alloc (by simp; omega) _, ?_⟩
            · rw [Hti.out, HM1.out, mbyte, HB.out]; exact ByteArray.mk_append_mk (maskU kk 54 j) [_]
            · rw [Htu.out, HM2.out, mbyte, HB.out]; exact ByteArray.mk_append_mk (maskU kk 92 j) [_]
            · exact (heapO _ _ _ (by simp; omega)).trans ((heapO _ _ _ hzl).trans Hz.out)
          case measure => simp [intOf]; omega
      · have ej : j = 64 := by omega
        have hti2 := Hti.out
        have htu2 := Htu.out
        rw [ej] at hti2 htu2
        have Hti2 : Hid _ := hti2
        have Htu2 : Hid _ := htu2
        clear cv1 cv2 hti2 htu2 ej Hti Htu
        go_wp2_with fail
        refine (refHash_b _ (maskU kk 54 64 ++ data) (by rw [Hti2.out]; exact ByteArray.mk_append_mk _ _) wr (by rw [List.length_append, maskU_len]; omega)).mono ?_
        rintro e w1 ⟨rfl, hb1⟩
        have hDl := refHashP_len (maskU kk 54 64 ++ data)
        have HE : Hid (refTagP key data = refHashP (maskU kk 92 64 ++ toU (refHashP (maskU kk 54 64 ++ data)))) := by
          show refTagP key data = _
          rw [refTagP, HKU.out]
        generalize refHashP (maskU kk 54 64 ++ data) = D at *
        have hs1 : wr.heap.size ≤ w1.heap.size := hb1.size
        have z1 : Hid (w1.heap[w.heap.size]? = _) := (hb1.block w.heap.size hzl).trans Hz.out
        have bb1 := hb.trans (hb1.mono (by omega))
        clear hb1 Hz
        go_wp2_with (first
          | (with_reducible refine atStore 25 ?_
             refine wpList_store_W rfl 25 (.tmp 11) (.tmp 46) rfl w1.heap.size (A8 D) rfl rfl 25 Z8x32 ?_ (by rw [info25, A8_size, hDl]) (by rw [A8_size, hDl]; rfl) (A8_one _) ?_
             · exact heapN w1 _ _ rfl
             intro U hU
             refine hideGoal ?_))
        have uz : Hid (U.heap[w.heap.size]? = _) := ((hU.other w.heap.size (by omega)).trans (heapO w1 _ _ (by omega))).trans z1.out
        have ub := hU.below _ _ (by omega) (bb1.alloc (by omega) _)
        have ug : Hid (U.heap[w1.heap.size]? = _) := hU.here
        have us : w.heap.size < U.heap.size := by rw [hU.size]; simp; omega
        clear hU z1 bb1
        generalize w1.heap.size = g at *
        refine openGoal ?_
        go_wp2_with (first
          | (with_reducible refine atLoad 25 ?_
             refine wpList_load_row rfl 25 (.tmp 11) rfl g rfl 25 (A8 D) (0, 0) (.array 32 5) ug.out und25 rfl (by rw [info25, A8_size, hDl]) ?_))
        refine (text_any D U hDl).mono ?_
        rintro e w3 ⟨rfl, hb3⟩
        have hs3 : U.heap.size ≤ w3.heap.size := hb3.size
        have z3 : Hid (w3.heap[w.heap.size]? = _) := (hb3.block w.heap.size us).trans uz.out
        have bb3 := ub.trans (hb3.mono (by omega))
        have hDu : (toU D).length = 32 := by rw [toU_len, hDl]
        have hsD : (ByteArray.mk (toU D).toArray).size = 32 := by show (toU D).toArray.size = 32; simpa using hDu
        clear hb3
        go_wp2_with fail
        refine (refHash_b _ (maskU kk 92 64 ++ toU D) (by rw [Htu2.out]; exact ByteArray.mk_append_mk _ _) w3 (by rw [List.length_append, maskU_len, hDu]; omega)).mono ?_
        rintro e w4 ⟨rfl, hb4⟩
        have hRl := refHashP_len (maskU kk 92 64 ++ toU D)
        generalize refHashP (maskU kk 92 64 ++ toU D) = R at *
        have z4 : Hid (w4.heap[w.heap.size]? = _) := (hb4.block w.heap.size (by omega)).trans z3.out
        have bb4 := bb3.trans (hb4.mono (by omega))
        clear hb4
        go_wp2_with (first
          | (with_reducible refine atStore 25 ?_
             refine wpList_store_W rfl 25 (.tmp 4) (.tmp 51) rfl w.heap.size (A8 R) rfl rfl 25 Z8x32 z4.out (by rw [info25, A8_size, hRl]) (by rw [A8_size, hRl]; rfl) (A8_one _) ?_
             intro X hX))
        exact bodyPost_ret (v := .agg (A8 R)) (results_cell_row rfl _ _ w.heap.size 25 _ (0, 0) _ rfl hX.here und25 rfl (by rw [info25, A8_size, hRl])) rfl ⟨by rw [HE.out], hX.below _ _ (Nat.le_refl _) bb4⟩
  · have hkk : kkU key = key := by unfold kkU; rw [if_neg h64]
    go_enter Tryd.func20, Tryd.ntmps20
    go_wp2_with fail
    obtain ⟨kk, hkg⟩ : ∃ kk, kk = key := ⟨_, rfl⟩
    rw [← hkg] at hkk
    rw [← hkg]
    have HKU : Hid (kkU key = kk) := by rw [← hkg]; exact hkk
    have hkl : kk.length ≤ 64 := by rw [hkg]; omega
    clear hkk hkg h64 hk
    go_loopw [7, 8, 9] (fun vi vo i wr => ∃ (j : Nat) (ti tu : ByteArray), j ≤ 64 ∧ i = .int .i64 j ∧ vi = .string ti ∧ vo = .string tu ∧ ti = ⟨(maskU kk 54 j).toArray⟩ ∧ tu = ⟨(maskU kk 92 j).toArray⟩ ∧ Below w.heap.size w wr ∧ wr.heap[w.heap.size]? = some (.cells Z8x32 25)) (fun _ _ i _ => 64 - (intOf i).toNat)
    case atStart => exact ⟨0, _, _, by omega, rfl, rfl, rfl, rfl, rfl, (Below.refl _ _).alloc (Nat.le_refl _) _, heapN w _ _ rfl⟩
    case round =>
      obtain ⟨j, ti, tu, hj, rfl, rfl, rfl, hti, htu, hb, hz⟩ := hrel
      have Hti : Hid (ti = _) := hti
      have Htu : Hid (tu = _) := htu
      have Hz : Hid (wr.heap[w.heap.size]? = _) := hz
      have hsi : ti.size = j := by rw [hti]; exact maskU_len kk 54 j
      have hso : tu.size = j := by rw [htu]; exact maskU_len kk 92 j
      have hzl : w.heap.size < wr.heap.size := row_lt hz
      have HSI : Hid _ := hsi
      have HSO : Hid _ := hso
      have hsi2 : ti.size ≤ 64 := by omega
      have hso2 : tu.size ≤ 64 := by omega
      clear hti htu hz hsi hso
      have cv1 : ∀ b : Int, _ := fun b => conv_w b wr
      have cv2 : ∀ b c : Int, _ := fun b c => conv_w2 b c wr
      by_cases hj64 : j < 64
      · have HM1 : Hid (maskU kk 54 (j + 1) = maskU kk 54 j ++ [mbyte kk 54 j]) := maskU_step kk 54 j
        have HM2 : Hid (maskU kk 92 (j + 1) = maskU kk 92 j ++ [mbyte kk 92 j]) := maskU_step kk 92 j
        by_cases hjk : j < kk.length
        · have HB : Hid (kbyte kk j = ((kk[j]).toNat : Int)) := toI_get kk j hjk
          go_wp2_with fail
          go_roundw
          case rel =>
            refine ⟨j + 1, _, _, by omega, by go_num, rfl, rfl, ?_, ?_, (hb.alloc (by omega) _).alloc (by simp; omega) _, ?_⟩
            · rw [Hti.out, HM1.out, mbyte, HB.out]; exact ByteArray.mk_append_mk (maskU kk 54 j) [_]
            · rw [Htu.out, HM2.out, mbyte, HB.out]; exact ByteArray.mk_append_mk (maskU kk 92 j) [_]
            · exact (heapO _ _ _ (by simp; omega)).trans ((heapO _ _ _ hzl).trans Hz.out)
          case measure => simp [intOf]; omega
        · have HB : Hid (kbyte kk j = 0) := by
            show (toI kk).getD j 0 = 0
            rw [List.getD_eq_getElem?_getD, List.getElem?_eq_none (by rw [toI_len]; omega)]; rfl
          go_wp2_with fail
          go_roundw
          case rel =>
            refine ⟨j + 1, _, _, by omega, by go_num, rfl, rfl, ?_, ?_, (hb.alloc (by omega) _).alloc (by simp; omega) _, ?_⟩
            · rw [Hti.out, HM1.out, mbyte, HB.out]; exact ByteArray.mk_append_mk (maskU kk 54 j) [_]
            · rw [Htu.out, HM2.out, mbyte, HB.out]; exact ByteArray.mk_append_mk (maskU kk 92 j) [_]
            · exact (heapO _ _ _ (by simp; omega)).trans ((heapO _ _ _ hzl).trans Hz.out)
          case measure => simp [intOf]; omega
      · have ej : j = 64 := by omega
        have hti2 := Hti.out
        have htu2 := Htu.out
        rw [ej] at hti2 htu2
        have Hti2 : Hid _ := hti2
        have Htu2 : Hid _ := htu2
        clear cv1 cv2 hti2 htu2 ej Hti Htu
        go_wp2_with fail
        refine (refHash_b _ (maskU kk 54 64 ++ data) (by rw [Hti2.out]; exact ByteArray.mk_append_mk _ _) wr (by rw [List.length_append, maskU_len]; omega)).mono ?_
        rintro e w1 ⟨rfl, hb1⟩
        have hDl := refHashP_len (maskU kk 54 64 ++ data)
        have HE : Hid (refTagP key data = refHashP (maskU kk 92 64 ++ toU (refHashP (maskU kk 54 64 ++ data)))) := by
          show refTagP key data = _
          rw [refTagP, HKU.out]
        generalize refHashP (maskU kk 54 64 ++ data) = D at *
        have hs1 : wr.heap.size ≤ w1.heap.size := hb1.size
        have z1 : Hid (w1.heap[w.heap.size]? = _) := (hb1.block w.heap.size hzl).trans Hz.out
        have bb1 := hb.trans (hb1.mono (by omega))
        clear hb1 Hz
        go_wp2_with (first
          | (with_reducible refine atStore 25 ?_
             refine wpList_store_W rfl 25 (.tmp 11) (.tmp 46) rfl w1.heap.size (A8 D) rfl rfl 25 Z8x32 ?_ (by rw [info25, A8_size, hDl]) (by rw [A8_size, hDl]; rfl) (A8_one _) ?_
             · exact heapN w1 _ _ rfl
             intro U hU
             refine hideGoal ?_))
        have uz : Hid (U.heap[w.heap.size]? = _) := ((hU.other w.heap.size (by omega)).trans (heapO w1 _ _ (by omega))).trans z1.out
        have ub := hU.below _ _ (by omega) (bb1.alloc (by omega) _)
        have ug : Hid (U.heap[w1.heap.size]? = _) := hU.here
        have us : w.heap.size < U.heap.size := by rw [hU.size]; simp; omega
        clear hU z1 bb1
        generalize w1.heap.size = g at *
        refine openGoal ?_
        go_wp2_with (first
          | (with_reducible refine atLoad 25 ?_
             refine wpList_load_row rfl 25 (.tmp 11) rfl g rfl 25 (A8 D) (0, 0) (.array 32 5) ug.out und25 rfl (by rw [info25, A8_size, hDl]) ?_))
        refine (text_any D U hDl).mono ?_
        rintro e w3 ⟨rfl, hb3⟩
        have hs3 : U.heap.size ≤ w3.heap.size := hb3.size
        have z3 : Hid (w3.heap[w.heap.size]? = _) := (hb3.block w.heap.size us).trans uz.out
        have bb3 := ub.trans (hb3.mono (by omega))
        have hDu : (toU D).length = 32 := by rw [toU_len, hDl]
        have hsD : (ByteArray.mk (toU D).toArray).size = 32 := by show (toU D).toArray.size = 32; simpa using hDu
        clear hb3
        go_wp2_with fail
        refine (refHash_b _ (maskU kk 92 64 ++ toU D) (by rw [Htu2.out]; exact ByteArray.mk_append_mk _ _) w3 (by rw [List.length_append, maskU_len, hDu]; omega)).mono ?_
        rintro e w4 ⟨rfl, hb4⟩
        have hRl := refHashP_len (maskU kk 92 64 ++ toU D)
        generalize refHashP (maskU kk 92 64 ++ toU D) = R at *
        have z4 : Hid (w4.heap[w.heap.size]? = _) := (hb4.block w.heap.size (by omega)).trans z3.out
        have bb4 := bb3.trans (hb4.mono (by omega))
        clear hb4
        go_wp2_with (first
          | (with_reducible refine atStore 25 ?_
             refine wpList_store_W rfl 25 (.tmp 4) (.tmp 51) rfl w.heap.size (A8 R) rfl rfl 25 Z8x32 z4.out (by rw [info25, A8_size, hRl]) (by rw [A8_size, hRl]; rfl) (A8_one _) ?_
             intro X hX))
        exact bodyPost_ret (v := .agg (A8 R)) (results_cell_row rfl _ _ w.heap.size 25 _ (0, 0) _ rfl hX.here und25 rfl (by rw [info25, A8_size, hRl])) rfl ⟨by rw [HE.out], hX.below _ _ (Nat.le_refl _) bb4⟩
end Go.Proofs.YtcmjlhcpoajbkaaDoor
