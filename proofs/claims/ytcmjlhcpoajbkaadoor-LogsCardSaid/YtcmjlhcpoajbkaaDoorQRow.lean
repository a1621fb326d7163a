import Derived.Test.YtcmjlhcpoajbkaaDoorQRh
import Derived.Test.YtcmjlhcpoajbkaaDoorQPad
import Derived.Test.YtcmjlhcpoajbkaaDoorQTag
import Derived.Deep.AppendLies
import Derived.Stop.BytesEq
import Derived.Test.YtcmjlhcpoajbkaaDoorTie
import Derived.Test.YtcmjlhcpoajbkaaDoorCards
import Derived.ProofKit
import Derived.OpenShut
import Derived.ShutString
import Derived.ChangeOld
import Derived.LaidMore
import Derived.SizedLaws
import Derived.Stop.Joined
import Derived.Stop.LaidErr
import Derived.Lib.LaidTab
import Derived.SevenTiedAt
namespace Go.Proofs.YtcmjlhcpoajbkaaDoor
set_option maxRecDepth 10000
open Go.RowKit
/-- The document's hash. -/
def refHashP (l : List UInt8) : List Int := dbytes (hst KS HS (toI (padB l 8)) ((padB l 8).length / 64))
theorem refHashP_len (l : List UInt8) : (refHashP l).length = 32 := dbytes_len _
theorem refHash_p (l : List UInt8) (w : World) (hl : l.length ≤ 140737488355500) :
    Calls Tryd.prog 19 #[.string ⟨l.toArray⟩] w fun e w' => e = .returned (.agg (A8 (refHashP l))) ∧ Below w.heap.size w w' := refHash_any l w hl
theorem refHash_b (t : ByteArray) (l : List UInt8) (ht : t = ⟨l.toArray⟩) (w : World) (hl : l.length ≤ 140737488355500) :
    Calls Tryd.prog 19 #[.string t] w fun e w' => e = .returned (.agg (A8 (refHashP l))) ∧ Below w.heap.size w w' := by
  subst ht; exact refHash_p l w hl
def kbyte (kk : List UInt8) (i : Nat) : Int := (toI kk).getD i 0
def mbyte (kk : List UInt8) (m : Int) (i : Nat) : UInt8 := UInt8.ofNat (bits .xor .u8 (kbyte kk i) m).toNat
def maskU (kk : List UInt8) (m : Int) (n : Nat) : List UInt8 := (List.range n).map (mbyte kk m)
theorem maskU_step (kk : List UInt8) (m : Int) (n : Nat) : maskU kk m (n + 1) = maskU kk m n ++ [mbyte kk m n] := by simp [maskU, List.range_succ]
theorem maskU_len (kk : List UInt8) (m : Int) (n : Nat) : (maskU kk m n).length = n := by simp [maskU]
theorem conv_w (b : Int) (w : World) :
    (convert 22 9 (.slice (some ⟨w.heap.size, 0, none⟩) 1 1)).run Tryd.prog (w.alloc (.cells #[.int .u8 b] 5)) = .ok (.string ⟨#[UInt8.ofNat b.toNat]⟩) (w.alloc (.cells #[.int .u8 b] 5)) := conv_one b _ w rfl
theorem conv_w2 (b c : Int) (w : World) :
    (convert 22 9 (.slice (some ⟨w.heap.size + 1, 0, none⟩) 1 1)).run Tryd.prog ((w.alloc (.cells #[.int .u8 c] 5)).alloc (.cells #[.int .u8 b] 5)) = .ok (.string ⟨#[UInt8.ofNat b.toNat]⟩) ((w.alloc (.cells #[.int .u8 c] 5)).alloc (.cells #[.int .u8 b] 5)) := by
  have := conv_w b (w.alloc (.cells #[.int .u8 c] 5))
  simpa using this
def kkU (key : List UInt8) : List UInt8 := if 64 < key.length then toU (refHashP key) else key
def refTagP (key data : List UInt8) : List Int := refHashP (maskU (kkU key) 92 64 ++ toU (refHashP (maskU (kkU key) 54 64 ++ data)))
set_option maxHeartbeats 1000000 in
theorem refTag_any (key data : List UInt8) (w : World) (hk : key.length ≤ 140737488355400) (hd : data.length ≤ 140737488355400) :
    Calls Tryd.prog 20 #[.string ⟨key.toArray⟩, .string ⟨data.toArray⟩] w fun e w' => e = .returned (.agg (A8 (refTagP key data))) ∧ Below w.heap.size w w' := by
  by_cases h64 : 64 < key.length
  · have hkk : kkU key = toU (refHashP key) := by unfold kkU; rw [if_pos h64]
    have hHl := refHashP_len key
    have hb0 : Below w.heap.size w (w.alloc (.cells Z8x32 25)) := (Below.refl _ _).alloc (Nat.le_refl _) _
    go_enter Tryd.func20, Tryd.ntmps20
    go_wp2_with fail
    refine (refHash_p key _ (by omega)).mono ?_
    rintro e wa ⟨rfl, hba⟩
    generalize refHashP key = DK at *
    have za : Hid (wa.heap[w.heap.size]? = _) := (hba.block w.heap.size (by simp)).trans (heapN w _ _ rfl)
    have bba := hb0.trans (hba.mono (by simp))
    have hsa : w.heap.size < wa.heap.size := row_lt za.out
    clear hba hb0
    go_wp2_with (first
      | (with_reducible refine atStore 25 ?_
         refine wpList_store_W rfl 25 (.tmp 6) (.tmp 17) rfl wa.heap.size (A8 DK) rfl rfl 25 Z8x32 ?_ (by rw [info25, A8_size, hHl]) (by rw [A8_size, hHl]; rfl) (A8_one _) ?_
         · exact heapN wa _ _ rfl
         intro UA hUA
         refine hideGoal ?_))
    have uza : Hid (UA.heap[w.heap.size]? = _) := ((hUA.other w.heap.size (by omega)).trans (heapO wa _ _ (by omega))).trans za.out
    have uba := hUA.below _ _ (by omega) (bba.alloc (by omega) _)
    have uga : Hid (UA.heap[wa.heap.size]? = _) := hUA.here
    have usa : w.heap.size < UA.heap.size := by rw [hUA.size]; simp; omega
    clear hUA za bba
    generalize wa.heap.size = ga at *
    refine openGoal ?_
    go_wp2_with (first
      | (with_reducible refine atLoad 25 ?_
         refine wpList_load_row rfl 25 (.tmp 6) rfl ga rfl 25 (A8 DK) (0, 0) (.array 32 5) uga.out und25 rfl (by rw [info25, A8_size, hHl]) ?_))
    refine (text_any DK UA hHl).mono ?_
    rintro e wb ⟨rfl, hbb⟩
    have zb : Hid (wb.heap[w.heap.size]? = _) := (hbb.block w.heap.size usa).trans uza.out
    have bbb := uba.trans (hbb.mono (by omega))
    have hkl0 : (toU DK).length ≤ 64 := by rw [toU_len, hHl]; omega
    generalize toU DK = kk at *
    have HKU : Hid (kkU key = kk) := hkk
    have hkl : kk.length ≤ 64 := hkl0
    clear hkk hbb uga uza uba hHl hkl0 hk h64
    go_wp2_with fail
    go_loopw [7, 8, 9] (fun vi vo i wr => ∃ (j : Nat) (ti tu : ByteArray), j ≤ 64 ∧ i = .int .i64 j ∧ vi = .string ti ∧ vo = .string tu ∧ ti = ⟨(maskU kk 54 j).toArray⟩ ∧ tu = ⟨(maskU kk 92 j).toArray⟩ ∧ Below w.heap.size w wr ∧ wr.heap[w.heap.size]? = some (.cells Z8x32 25)) (fun _ _ i _ => 64 - (intOf i).toNat)
    case atStart => exact ⟨0, _, _, by omega, rfl, rfl, rfl, rfl, rfl, bbb, zb.out⟩
    case round =>
      clear bbb zb
      obtain ⟨j, ti, tu, hj, rfl, rfl, rfl, hti, htu, hb, hz⟩ := hrel
      have Hti : Hid (ti = _) := hti
      have Htu : Hid (tu = _) := htu
      have Hz : Hid (wr.heap[w.heap.size]? = _) := hz
      have hsi : ti.size = j := by rw [hti]; exact maskU_len kk 54 j
      have hso : tu.size = j := by rw [htu]; exact maskU_len kk 92 j
      have hzl : w.heap.size < wr.heap.size := row_lt hz
      have HSI : Hid _ := hsi
      have HSO : Hid _ := hso
      have hsi2 : ti.size ≤ 64 := by omega
      have hso2 : tu.size ≤ 64 := by omega
      clear hti htu hz hsi hso
      have cv1 : ∀ b : Int, _ := fun b => conv_w b wr
      have cv2 : ∀ b c : Int, _ := fun b c => conv_w2 b c wr
      by_cases hj64 : j < 64
      · have HM1 : Hid (maskU kk 54 (j + 1) = maskU kk 54 j ++ [mbyte kk 54 j]) := maskU_step kk 54 j
        have HM2 : Hid (maskU kk 92 (j + 1) = maskU kk 92 j ++ [mbyte kk 92 j]) := maskU_step kk 92 j
        by_cases hjk : j < kk.length
        · have HB : Hid (kbyte kk j = ((kk[j]).toNat : Int)) := toI_get kk j hjk
          go_wp2_with fail
          go_roundw
          case rel =>
            refine ⟨j + 1, _, _, by omega, by go_num, rfl, rfl, ?_, ?_, (hb.alloc (by omega) _).alloc (by simp; omega) _, ?_⟩
            · rw [Hti.out, HM1.out, mbyte, HB.out]; exact ByteArray.mk_append_mk (maskU kk 54 j) [_]
            · rw [Htu.out, HM2.out, mbyte, HB.out]; exact ByteArray.mk_append_mk (maskU kk 92 j) [_]
            · exact (heapO _ _ _ (by simp; omega)).trans ((heapO _ _ _ hzl).trans Hz.out)
          case measure => simp [intOf]; omega
        · have HB : Hid (kbyte kk j = 0) := by
            show (toI kk).getD j 0 = 0
            rw [List.getD_eq_getElem?_getD, List.getElem?_eq_none (by rw [toI_len]; omega)]; rfl
          go_wp2_with fail
          go_roundw
          case rel =>
            refine ⟨j + 1, _, _, by omega, by go_num, rfl, rfl, ?_, ?_, (hb.alloc (by omega) _).alloc (by simp; omega) _, ?_⟩
            · rw [Hti.out, HM1.out, mbyte, HB.out]; exact ByteArray.mk_append_mk (maskU kk 54 j) [_]
            · rw [Htu.out, HM2.out, mbyte, HB.out]; exact ByteArray.mk_append_mk (maskU kk 92 j) [_]
            · exact (heapO _ _ _ (by simp; omega)).trans ((heapO _ _ _ hzl).trans Hz.out)
          case measure => simp [intOf]; omega
      · have ej : j = 64 := by omega
        have hti2 := Hti.out
        have htu2 := Htu.out
        rw [ej] at hti2 htu2
        have Hti2 : Hid _ := hti2
        have Htu2 : Hid _ := htu2
        clear cv1 cv2 hti2 htu2 ej Hti Htu
        go_wp2_with fail
        refine (refHash_b _ (maskU kk 54 64 ++ data) (by rw [Hti2.out]; exact ByteArray.mk_append_mk _ _) wr (by rw [List.length_append, maskU_len]; omega)).mono ?_
        rintro e w1 ⟨rfl, hb1⟩
        have hDl := refHashP_len (maskU kk 54 64 ++ data)
        have HE : Hid (refTagP key data = refHashP (maskU kk 92 64 ++ toU (refHashP (maskU kk 54 64 ++ data)))) := by
          show refTagP key data = _
          rw [refTagP, HKU.out]
        generalize refHashP (maskU kk 54 64 ++ data) = D at *
        have hs1 : wr.heap.size ≤ w1.heap.size := hb1.size
        have z1 : Hid (w1.heap[w.heap.size]? = _) := (hb1.block w.heap.size hzl).trans Hz.out
        have bb1 := hb.trans (hb1.mono (by omega))
        clear hb1 Hz
        go_wp2_with (first
          | (with_reducible refine atStore 25 ?_
             refine wpList_store_W rfl 25 (.tmp 11) (.tmp 46) rfl w1.heap.size (A8 D) rfl rfl 25 Z8x32 ?_ (by rw [info25, A8_size, hDl]) (by rw [A8_size, hDl]; rfl) (A8_one _) ?_
             · exact heapN w1 _ _ rfl
             intro U hU
             refine hideGoal ?_))
        have uz : Hid (U.heap[w.heap.size]? = _) := ((hU.other w.heap.size (by omega)).trans (heapO w1 _ _ (by omega))).trans z1.out
        have ub := hU.below _ _ (by omega) (bb1.alloc (by omega) _)
        have ug : Hid (U.heap[w1.heap.size]? = _) := hU.here
        have us : w.heap.size < U.heap.size := by rw [hU.size]; simp; omega
        clear hU z1 bb1
        generalize w1.heap.size = g at *
        refine openGoal ?_
        go_wp2_with (first
          | (with_reducible refine atLoad 25 ?_
             refine wpList_load_row rfl 25 (.tmp 11) rfl g rfl 25 (A8 D) (0, 0) (.array 32 5) ug.out und25 rfl (by rw [info25, A8_size, hDl]) ?_))
        refine (text_any D U hDl).mono ?_
        rintro e w3 ⟨rfl, hb3⟩
        have hs3 : U.heap.size ≤ w3.heap.size := hb3.size
        have z3 : Hid (w3.heap[w.heap.size]? = _) := (hb3.block w.heap.size us).trans uz.out
        have bb3 := ub.trans (hb3.mono (by omega))
        have hDu : (toU D).length = 32 := by rw [toU_len, hDl]
        have hsD : (ByteArray.mk (toU D).toArray).size = 32 := by show (toU D).toArray.size = 32; simpa using hDu
        clear hb3
        go_wp2_with fail
        refine (refHash_b _ (maskU kk 92 64 ++ toU D) (by rw [Htu2.out]; exact ByteArray.mk_append_mk _ _) w3 (by rw [List.length_append, maskU_len, hDu]; omega)).mono ?_
        rintro e w4 ⟨rfl, hb4⟩
        have hRl := refHashP_len (maskU kk 92 64 ++ toU D)
        generalize refHashP (maskU kk 92 64 ++ toU D) = R at *
        have z4 : Hid (w4.heap[w.heap.size]? = _) := (hb4.block w.heap.size (by omega)).trans z3.out
        have bb4 := bb3.trans (hb4.mono (by omega))
        clear hb4
        go_wp2_with (first
          | (with_reducible refine atStore 25 ?_
             refine wpList_store_W rfl 25 (.tmp 4) (.tmp 51) rfl w.heap.size (A8 R) rfl rfl 25 Z8x32 z4.out (by rw [info25, A8_size, hRl]) (by rw [A8_size, hRl]; rfl) (A8_one _) ?_
             intro X hX))
        exact bodyPost_ret (v := .agg (A8 R)) (results_cell_row rfl _ _ w.heap.size 25 _ (0, 0) _ rfl hX.here und25 rfl (by rw [info25, A8_size, hRl])) rfl ⟨by rw [HE.out], hX.below _ _ (Nat.le_refl _) bb4⟩
  · have hkk : kkU key = key := by unfold kkU; rw [if_neg h64]
    go_enter Tryd.func20, Tryd.ntmps20
    go_wp2_with fail
    obtain ⟨kk, hkg⟩ : ∃ kk, kk = key := ⟨_, rfl⟩
    rw [← hkg] at hkk
    rw [← hkg]
    have HKU : Hid (kkU key = kk) := by rw [← hkg]; exact hkk
    have hkl : kk.length ≤ 64 := by rw [hkg]; omega
    clear hkk hkg h64 hk
    go_loopw [7, 8, 9] (fun vi vo i wr => ∃ (j : Nat) (ti tu : ByteArray), j ≤ 64 ∧ i = .int .i64 j ∧ vi = .string ti ∧ vo = .string tu ∧ ti = ⟨(maskU kk 54 j).toArray⟩ ∧ tu = ⟨(maskU kk 92 j).toArray⟩ ∧ Below w.heap.size w wr ∧ wr.heap[w.heap.size]? = some (.cells Z8x32 25)) (fun _ _ i _ => 64 - (intOf i).toNat)
    case atStart => exact ⟨0, _, _, by omega, rfl, rfl, rfl, rfl, rfl, (Below.refl _ _).alloc (Nat.le_refl _) _, heapN w _ _ rfl⟩
    case round =>
      obtain ⟨j, ti, tu, hj, rfl, rfl, rfl, hti, htu, hb, hz⟩ := hrel
      have Hti : Hid (ti = _) := hti
      have Htu : Hid (tu = _) := htu
      have Hz : Hid (wr.heap[w.heap.size]? = _) := hz
      have hsi : ti.size = j := by rw [hti]; exact maskU_len kk 54 j
      have hso : tu.size = j := by rw [htu]; exact maskU_len kk 92 j
      have hzl : w.heap.size < wr.heap.size := row_lt hz
      have HSI : Hid _ := hsi
      have HSO : Hid _ := hso
      have hsi2 : ti.size ≤ 64 := by omega
      have hso2 : tu.size ≤ 64 := by omega
      clear hti htu hz hsi hso
      have cv1 : ∀ b : Int, _ := fun b => conv_w b wr
      have cv2 : ∀ b c : Int, _ := fun b c => conv_w2 b c wr
      by_cases hj64 : j < 64
      · have HM1 : Hid (maskU kk 54 (j + 1) = maskU kk 54 j ++ [mbyte kk 54 j]) := maskU_step kk 54 j
        have HM2 : Hid (maskU kk 92 (j + 1) = maskU kk 92 j ++ [mbyte kk 92 j]) := maskU_step kk 92 j
        by_cases hjk : j < kk.length
        · have HB : Hid (kbyte kk j = ((kk[j]).toNat : Int)) := toI_get kk j hjk
          go_wp2_with fail
          go_roundw
          case rel =>
            refine ⟨j + 1, _, _, by omega, by go_num, rfl, rfl, ?_, ?_, (hb.alloc (by omega) _).alloc (by simp; omega) _, ?_⟩
            · rw [Hti.out, HM1.out, mbyte, HB.out]; exact ByteArray.mk_append_mk (maskU kk 54 j) [_]
            · rw [Htu.out, HM2.out, mbyte, HB.out]; exact ByteArray.mk_append_mk (maskU kk 92 j) [_]
            · exact (heapO _ _ _ (by simp; omega)).trans ((heapO _ _ _ hzl).trans Hz.out)
          case measure => simp [intOf]; omega
        · have HB : Hid (kbyte kk j = 0) := by
            show (toI kk).getD j 0 = 0
            rw [List.getD_eq_getElem?_getD, List.getElem?_eq_none (by rw [toI_len]; omega)]; rfl
          go_wp2_with fail
          go_roundw
          case rel =>
            refine ⟨j + 1, _, _, by omega, by go_num, rfl, rfl, ?_, ?_, (hb.alloc (by omega) _).alloc (by simp; omega) _, ?_⟩
            · rw [Hti.out, HM1.out, mbyte, HB.out]; exact ByteArray.mk_append_mk (maskU kk 54 j) [_]
            · rw [Htu.out, HM2.out, mbyte, HB.out]; exact ByteArray.mk_append_mk (maskU kk 92 j) [_]
            · exact (heapO _ _ _ (by simp; omega)).trans ((heapO _ _ _ hzl).trans Hz.out)
          case measure => simp [intOf]; omega
      · have ej : j = 64 := by omega
        have hti2 := Hti.out
        have htu2 := Htu.out
        rw [ej] at hti2 htu2
        have Hti2 : Hid _ := hti2
        have Htu2 : Hid _ := htu2
        clear cv1 cv2 hti2 htu2 ej Hti Htu
        go_wp2_with fail
        refine (refHash_b _ (maskU kk 54 64 ++ data) (by rw [Hti2.out]; exact ByteArray.mk_append_mk _ _) wr (by rw [List.length_append, maskU_len]; omega)).mono ?_
        rintro e w1 ⟨rfl, hb1⟩
        have hDl := refHashP_len (maskU kk 54 64 ++ data)
        have HE : Hid (refTagP key data = refHashP (maskU kk 92 64 ++ toU (refHashP (maskU kk 54 64 ++ data)))) := by
          show refTagP key data = _
          rw [refTagP, HKU.out]
        generalize refHashP (maskU kk 54 64 ++ data) = D at *
        have hs1 : wr.heap.size ≤ w1.heap.size := hb1.size
        have z1 : Hid (w1.heap[w.heap.size]? = _) := (hb1.block w.heap.size hzl).trans Hz.out
        have bb1 := hb.trans (hb1.mono (by omega))
        clear hb1 Hz
        go_wp2_with (first
          | (with_reducible refine atStore 25 ?_
             refine wpList_store_W rfl 25 (.tmp 11) (.tmp 46) rfl w1.heap.size (A8 D) rfl rfl 25 Z8x32 ?_ (by rw [info25, A8_size, hDl]) (by rw [A8_size, hDl]; rfl) (A8_one _) ?_
             · exact heapN w1 _ _ rfl
             intro U hU
             refine hideGoal ?_))
        have uz : Hid (U.heap[w.heap.size]? = _) := ((hU.other w.heap.size (by omega)).trans (heapO w1 _ _ (by omega))).trans z1.out
        have ub := hU.below _ _ (by omega) (bb1.alloc (by omega) _)
        have ug : Hid (U.heap[w1.heap.size]? = _) := hU.here
        have us : w.heap.size < U.heap.size := by rw [hU.size]; simp; omega
        clear hU z1 bb1
        generalize w1.heap.size = g at *
        refine openGoal ?_
        go_wp2_with (first
          | (with_reducible refine atLoad 25 ?_
             refine wpList_load_row rfl 25 (.tmp 11) rfl g rfl 25 (A8 D) (0, 0) (.array 32 5) ug.out und25 rfl (by rw [info25, A8_size, hDl]) ?_))
        refine (text_any D U hDl).mono ?_
        rintro e w3 ⟨rfl, hb3⟩
        have hs3 : U.heap.size ≤ w3.heap.size := hb3.size
        have z3 : Hid (w3.heap[w.heap.size]? = _) := (hb3.block w.heap.size us).trans uz.out
        have bb3 := ub.trans (hb3.mono (by omega))
        have hDu : (toU D).length = 32 := by rw [toU_len, hDl]
        have hsD : (ByteArray.mk (toU D).toArray).size = 32 := by show (toU D).toArray.size = 32; simpa using hDu
        clear hb3
        go_wp2_with fail
        refine (refHash_b _ (maskU kk 92 64 ++ toU D) (by rw [Htu2.out]; exact ByteArray.mk_append_mk _ _) w3 (by rw [List.length_append, maskU_len, hDu]; omega)).mono ?_
        rintro e w4 ⟨rfl, hb4⟩
        have hRl := refHashP_len (maskU kk 92 64 ++ toU D)
        generalize refHashP (maskU kk 92 64 ++ toU D) = R at *
        have z4 : Hid (w4.heap[w.heap.size]? = _) := (hb4.block w.heap.size (by omega)).trans z3.out
        have bb4 := bb3.trans (hb4.mono (by omega))
        clear hb4
        go_wp2_with (first
          | (with_reducible refine atStore 25 ?_
             refine wpList_store_W rfl 25 (.tmp 4) (.tmp 51) rfl w.heap.size (A8 R) rfl rfl 25 Z8x32 z4.out (by rw [info25, A8_size, hRl]) (by rw [A8_size, hRl]; rfl) (A8_one _) ?_
             intro X hX))
        exact bodyPost_ret (v := .agg (A8 R)) (results_cell_row rfl _ _ w.heap.size 25 _ (0, 0) _ rfl hX.here und25 rfl (by rw [info25, A8_size, hRl])) rfl ⟨by rw [HE.out], hX.below _ _ (Nat.le_refl _) bb4⟩
end Go.Proofs.YtcmjlhcpoajbkaaDoor
namespace Go.Proofs.YtcmjlhcpoajbkaaDoor
set_option maxRecDepth 10000
def lenI (t : Nat) : List Int := (List.range 8).map fun j => 8 * (t : Int) / 2 ^ (56 - 8 * j) % 256
theorem lenI_len (t : Nat) : (lenI t).length = 8 := by simp [lenI]
def padI (t : Nat) (ys : List Int) : List Int := ys ++ 128 :: (List.replicate (padz ys.length) 0 ++ lenI t)
theorem padI_len (t : Nat) (ys : List Int) : (padI t ys).length = ys.length + 9 + padz ys.length := by
  simp [padI, lenI_len]; omega
/-- A beginning alone is looked at. -/
theorem hst_prefix (ks st ys tl : List Int) (q : Nat) (h : 64 * q ≤ ys.length) : hst ks st (ys ++ tl) q = hst ks st ys q := by
  induction q with
  | zero => rfl
  | succ q ih =>
    simp only [hst]
    rw [ih (by omega), List.drop_append_of_le_length (by omega), List.take_append_of_le_length (by rw [List.length_drop]; omega)]
/-- A block ahead. -/
theorem hst_shift (ks st A R : List Int) (hA : A.length = 64) (q : Nat) : hst ks st (A ++ R) (q + 1) = hst ks (tstate ks st A) R q := by
  induction q with
  | zero => simp [hst, ← hA]
  | succ q ih =>
    rw [hst, ih]
    simp only [hst]
    congr 2
    rw [show 64 * (q + 1) = A.length + 64 * q by omega, List.drop_append]
    simp
theorem setlen_form (L : List Int) (t i : Nat) (hL : L.length = 64) (hi : i ≤ 8) : setlen L t i = L.take (64 - i) ++ (lenI t).drop (8 - i) := by
  induction i with
  | zero => simp [setlen, lenI_len, ← hL]
  | succ i ih =>
    rw [setlen, ih (by omega)]
    have e1 : L.take (64 - i) = L.take (63 - i) ++ [L[63 - i]'(by omega)] := by
      rw [show 64 - i = (63 - i) + 1 by omega, List.take_succ_eq_append_getElem (by omega)]
    have e2 : (lenI t).drop (7 - i) = (8 * (t : Int) / 2 ^ (8 * i) % 256) :: (lenI t).drop (8 - i) := by
      rw [List.drop_eq_getElem_cons (by rw [lenI_len]; omega), show 7 - i + 1 = 8 - i by omega]
      congr 1
      simp only [lenI, List.getElem_map, List.getElem_range]
      rw [show 56 - 8 * (7 - i) = 8 * i by omega]
    rw [e1, show 64 - (i + 1) = 63 - i by omega, show 8 - (i + 1) = 7 - i by omega, e2, List.append_assoc, List.set_append, if_neg (by rw [List.length_take]; omega)]
    have e3 : 63 - i - (L.take (63 - i)).length = 0 := by rw [List.length_take]; omega
    rw [e3]
    simp
theorem fblock_short (rest : List Int) (h : rest.length < 64) : (fblock rest).set rest.length 128 = rest ++ 128 :: List.replicate (63 - rest.length) 0 := by
  unfold fblock
  rw [List.take_of_length_le (by omega), show 64 - rest.length = (63 - rest.length) + 1 by omega, List.replicate_succ, List.set_append, if_neg (by omega), Nat.sub_self]
  rfl
theorem rep_add (m n : Nat) : List.replicate (m + n) (0 : Int) = List.replicate m 0 ++ List.replicate n 0 := by rw [List.replicate_append_replicate]
theorem finP_pad (ks st : List Int) (t : Nat) (ys : List Int) : finP ks st t ys = dbytes (hst ks st (padI t ys) ((padI t ys).length / 64)) := by
  obtain ⟨q, hq⟩ : ∃ q, q = ys.length / 64 := ⟨_, rfl⟩
  obtain ⟨r, hr⟩ : ∃ r, r = ys.length % 64 := ⟨_, rfl⟩
  have hn : ys.length = 64 * q + r := by omega
  have hr64 : r < 64 := by omega
  have hrest : (ys.drop (64 * q)).length = r := by rw [List.length_drop]; omega
  have hdrop : (padI t ys).drop (64 * q) = ys.drop (64 * q) ++ 128 :: (List.replicate (padz ys.length) 0 ++ lenI t) := by
    unfold padI; rw [List.drop_append_of_le_length (by omega)]
  have hpre : hst ks st (padI t ys) q = hst ks st ys q := hst_prefix _ _ _ _ _ (by omega)
  unfold finP
  rw [← hq, ← hr]
  have hset : (fblock (ys.drop (64 * q))).set r 128 = ys.drop (64 * q) ++ 128 :: List.replicate (63 - r) 0 := by
    have := fblock_short (ys.drop (64 * q)) (by omega)
    rw [hrest] at this; exact this
  rw [hset]
  have hlen := padI_len t ys
  by_cases h56 : 56 ≤ r
  · rw [if_pos h56]
    have hz : padz ys.length = (63 - r) + 56 := by unfold padz; omega
    rw [show (padI t ys).length / 64 = q + 1 + 1 by rw [hlen, hz]; omega]
    have e1 : ((padI t ys).drop (64 * q)).take 64 = ys.drop (64 * q) ++ 128 :: List.replicate (63 - r) 0 := by
      rw [hdrop, hz, rep_add, List.append_assoc, List.take_append, hrest]
      rw [List.take_of_length_le (by omega), show 64 - r = (63 - r) + 1 by omega, List.take_succ_cons, List.take_append_of_le_length (by simp), List.take_of_length_le (by simp)]
    have e2 : ((padI t ys).drop (64 * (q + 1))).take 64 = setlen (List.replicate 64 0) t 8 := by
      rw [setlen_form _ _ _ (by simp) (Nat.le_refl _)]
      have e : (padI t ys).drop (64 * (q + 1)) = List.replicate 56 0 ++ lenI t := by
        rw [show 64 * (q + 1) = 64 * q + 64 by omega, ← List.drop_drop, hdrop, hz, rep_add, List.append_assoc, List.drop_append, hrest, List.drop_of_length_le (by omega), show 64 - r = (63 - r) + 1 by omega]
        simp
      rw [e, List.take_of_length_le (by simp [lenI_len])]
      simp
    rw [hst, hst, hpre, e1, e2]
  · rw [if_neg h56]
    have hz : padz ys.length = 55 - r := by unfold padz; omega
    rw [show (padI t ys).length / 64 = q + 1 by rw [hlen, hz]; omega]
    have e1 : ((padI t ys).drop (64 * q)).take 64 = setlen (ys.drop (64 * q) ++ 128 :: List.replicate (63 - r) 0) t 8 := by
      rw [setlen_form _ _ _ (by simp [hrest]; omega) (Nat.le_refl _), hdrop, hz]
      rw [List.take_of_length_le (i := 64) (by simp [hrest, lenI_len]; omega)]
      rw [show 63 - r = (55 - r) + 8 by omega, rep_add]
      have e : (64 : Nat) - 8 = (List.drop (64 * q) ys ++ 128 :: List.replicate (55 - r) 0).length := by simp [hrest]; omega
      rw [show List.drop (64 * q) ys ++ 128 :: (List.replicate (55 - r) 0 ++ List.replicate 8 0) = (List.drop (64 * q) ys ++ 128 :: List.replicate (55 - r) 0) ++ List.replicate 8 0 by simp]
      rw [e, List.take_left' rfl]
      simp
    rw [hst, hpre, e1]
end Go.Proofs.YtcmjlhcpoajbkaaDoor
namespace Go.Proofs.YtcmjlhcpoajbkaaDoor
set_option maxRecDepth 10000
theorem lenB_int (n j : Nat) : ((lenB n j).toNat : Int) = 8 * (n : Int) / 2 ^ (56 - 8 * j) % 256 := by
  have h : n * 8 / 2 ^ (56 - 8 * j) % 256 < 256 := Nat.mod_lt _ (by omega)
  unfold lenB
  rw [UInt8.toNat_ofNat', show (2 : Nat) ^ 8 = 256 from rfl, Nat.mod_eq_of_lt h, Nat.mul_comm]
  simp only [Int.natCast_emod, Int.natCast_ediv, Int.natCast_mul, Int.natCast_pow]
  rfl
theorem toI_padB (l : List UInt8) : toI (padB l 8) = padI l.length (toI l) := by
  unfold padB padA padI
  rw [toI_append, toI_append, toI_len]
  have e1 : toI (128 :: List.replicate (padz l.length) 0) = 128 :: List.replicate (padz l.length) 0 := by
    simp [toI]
  have e2 : toI (lenU l.length 8) = lenI l.length := by
    unfold toI lenU lenI
    rw [List.map_map]
    apply List.map_congr_left
    intro j _
    exact lenB_int _ _
  rw [e1, e2, List.append_assoc]
  rfl
theorem hash_same (l : List UInt8) : hashP KS HS (toI l) = refHashP l := by
  unfold hashP refHashP
  rw [finP_pad, Nat.zero_add, toI_len, ← toI_padB, toI_len]
theorem padI_ahead (t : Nat) (A ys : List Int) (hA : A.length = 64) : padI t (A ++ ys) = A ++ padI t ys := by
  unfold padI
  have e : padz (A ++ ys).length = padz ys.length := by rw [List.length_append, hA]; unfold padz; omega
  rw [e, List.append_assoc]
theorem hash_ahead (A d : List UInt8) (hA : A.length = 64) : refHashP (A ++ d) = finP KS (tstate KS HS (toI A)) (64 + d.length) (toI d) := by
  unfold refHashP
  rw [finP_pad]
  have e1 : toI (padB (A ++ d) 8) = toI A ++ padI (64 + d.length) (toI d) := by
    rw [toI_padB, toI_append, List.length_append, hA, padI_ahead _ _ _ (by rw [toI_len, hA])]
  have e2 : (padB (A ++ d) 8).length / 64 = (padI (64 + d.length) (toI d)).length / 64 + 1 := by
    rw [← toI_len, e1, List.length_append, toI_len, hA]; omega
  rw [e1, e2, hst_shift _ _ _ _ (by rw [toI_len, hA])]
theorem mask_same (kk : List UInt8) (m : Int) (h : kk.length ≤ 64) : toI (maskU kk m 64) = maskP (fblock (toI kk)) m := by
  have hl := toI_len kk
  apply List.ext_getElem?
  intro i
  by_cases hi : i < 64
  · have e1 : (toI (maskU kk m 64))[i]? = some (((mbyte kk m i).toNat : Nat) : Int) := by
      simp [toI, maskU, hi]
    have e2 : (fblock (toI kk))[i]? = some (kbyte kk i) := by
      unfold fblock kbyte
      rw [List.take_of_length_le (by omega), List.getD_eq_getElem?_getD]
      by_cases hk : i < (toI kk).length
      · rw [List.getElem?_append_left hk, List.getElem?_eq_getElem hk]; rfl
      · have e0 : (toI kk)[i]? = none := List.getElem?_eq_none (by omega)
        rw [List.getElem?_append_right (by omega), e0, List.getElem?_replicate, if_pos (by omega)]; rfl
    rw [e1]
    simp only [maskP, List.getElem?_map, e2, Option.map_some]
    congr 1
    have hr := bits_u8_range .xor (kbyte kk i) m
    unfold mbyte
    rw [UInt8.toNat_ofNat', show (2 : Nat) ^ 8 = 256 from rfl]
    omega
  · rw [List.getElem?_eq_none (by rw [toI_len, maskU_len]; omega), List.getElem?_eq_none (by rw [maskP_len, fblock_len]; omega)]
theorem refHashP_bytes (l : List UInt8) : Bytes (refHashP l) := dbytes_bytes _
theorem kkU_len (key : List UInt8) : (kkU key).length ≤ 64 := by
  unfold kkU; split
  · rw [toU_len, refHashP_len]; omega
  · omega
theorem kblock_same (key : List UInt8) : kblock KS HS (toI key) = fblock (toI (kkU key)) := by
  unfold kblock kkU
  rw [toI_len]
  by_cases h : 64 < key.length
  · rw [if_pos h, if_pos h, hash_same, toI_toU _ (refHashP_bytes key)]
  · rw [if_neg h, if_neg h]
theorem tag_same (key data : List UInt8) : tagP KS HS (toI key) (toI data) = refTagP key data := by
  unfold tagP refTagP
  rw [kblock_same, ← mask_same _ _ (kkU_len key), ← mask_same _ _ (kkU_len key), toI_len]
  rw [hash_ahead _ _ (maskU_len _ _ _), hash_ahead _ _ (maskU_len _ _ _)]
  have e : (toU (finP KS (tstate KS HS (toI (maskU (kkU key) 54 64))) (64 + data.length) (toI data))).length = 32 := by rw [toU_len, finP_len]
  rw [e, toI_toU _ (finP_bytes _ _ _ _)]
end Go.Proofs.YtcmjlhcpoajbkaaDoor
namespace Go.Proofs.YtcmjlhcpoajbkaaDoor
set_option maxRecDepth 10000
open Go.RowKit
theorem info5' : ∃ i, Tryd.prog.info? 5 = some i ∧ i.zero = some (.int .u8 0) ∧ i.size = 1 ∧ i.bytes = 1 := ⟨_, rfl, rfl, rfl, rfl⟩
/-- What roomy makes: the bytes, and a mark behind them. -/
structure Roomy (w w' : World) (g n cap : Nat) (xs : List Int) : Prop where
  new : w.heap.size ≤ g
  fits : n + 1 ≤ cap
  most : cap ≤ 9223372036854775807
  here : g < w'.heap.size
  cells : ∀ j, j < n → w'.cell? ⟨g, j, none⟩ = some (.int .u8 (xs.getD j 0))
  mark : w'.cell? ⟨g, n, none⟩ = some (.int .u8 126)
  below : Below w.heap.size w w'
theorem owns8 {w : World} {B : Nat} {v : Value} {l : List Int} {n : Nat} (h : w.ownsRow B 5 1 v n (l.map (Value.int .u8))) (hn : 0 < n) :
    ∃ g cap, v = .slice (some ⟨g, 0, none⟩) n cap ∧ B ≤ g ∧ g < w.heap.size ∧ n ≤ cap ∧ cap ≤ maxLen ∧ l.length = n ∧ ∀ j, j < n → w.cell? ⟨g, j, none⟩ = some (.int .u8 (l.getD j 0)) := by
  obtain ⟨hl, ⟨_, h0⟩ | ⟨g, cap, cur, rfl, hg, hh, hc, hm, hs, ht⟩⟩ := h
  · omega
  · have hl' : l.length = n := by simpa using hl
    refine ⟨g, cap, rfl, hg, row_lt hh, hc, hm, hl', fun j hj => ?_⟩
    rw [cell_of_row _ _ _ _ _ _ hh]
    have e := congrArg (fun z : List Value => z[j]?) ht
    simp only [Nat.mul_one, List.getElem?_take, if_pos hj, List.getElem?_map] at e
    rw [← Array.getElem?_toList, e]
    rw [List.getD_eq_getElem?_getD, List.getElem?_eq_getElem (by omega)]
    rfl
theorem owns_alloc8 {w : World} {B : Nat} {e : TypeId} {n s : Nat} {v : Value} {xs : List Value} (h : w.ownsRow B e s v n xs) (o : Obj) : (w.alloc o).ownsRow B e s v n xs := by
  obtain ⟨h1, h2 | ⟨g, cap, cur, hv, hg, hh, r⟩⟩ := h
  · exact ⟨h1, .inl h2⟩
  · exact ⟨h1, .inr ⟨g, cap, cur, hv, hg, (heapO w o g (row_lt hh)).trans hh, r⟩⟩
theorem wpList_app8 {ops : Array Oper} {rest : List Oper} {o : Oper} {a : Act} {Q : Exit → Act → World → Prop} {w : World} (hgd : o.guard = none) (s x : Operand)
    (ho : o.op = .call { callee := .builtin .append, args := #[s, x], argTypes := #[22, 22] }) (B : Nat) (v : Value) (l : List Int) (n : Nat) (hs : a.eval s = v)
    (hown : w.ownsRow B 5 1 v n (l.map (Value.int .u8))) (ad : Addr) (m c : Nat) (ys : List Int) (hx : a.eval x = .slice (some ad) m c) (hl : ys.length = m)
    (hnews : ∀ j, j < m → w.cell? (ad.add j) = some (.int .u8 (ys.getD j 0))) (hm : 0 < m) (hn : n + m ≤ 140737488355328) (hB : B ≤ w.heap.size)
    (h : ∀ v' w', w'.ownsRow B 5 1 v' (n + m) ((l ++ ys).map (Value.int .u8)) → w.heap.size ≤ w'.heap.size → (∀ w0, Below B w0 w → Below B w0 w') → wpList Tryd.prog ops Q rest (a.put o.dst v') w') : wpList Tryd.prog ops Q (o :: rest) a w := by
  obtain ⟨i, hi, hz, hsz, hby⟩ := info5'
  refine wpList_append_lies w hgd s x 22 ho B 5 i (.int .u8 0) 1 1 Tryd.underlying22 hi hz hsz hby rfl (by omega) v n _ hs hown ad m c (ys.map (Value.int .u8)) hx (by simp [hl]) (fun j u hu => ?_) (fun u hu => ?_) hm (by unfold maxLen; omega) (by omega) hB _ rfl ?_
  · have hj : j < ys.length := by
      rcases Nat.lt_or_ge j ys.length with h' | h'
      · exact h'
      · rw [List.getElem?_eq_none (by simpa using h')] at hu; cases hu
    rw [hnews j (by omega)]
    simp only [List.getElem?_map, List.getElem?_eq_getElem hj, Option.map_some, Option.some.injEq] at hu
    rw [← hu, List.getD_eq_getElem?_getD, List.getElem?_eq_getElem hj]; rfl
  · simp only [List.mem_map] at hu; obtain ⟨y, _, rfl⟩ := hu; rfl
  · intro g cap w' h1 h2 h3 h4
    refine h _ w' (by simpa using h1) h2.size (fun w0 hb => hb.grown h2 hB (fun k hk => ?_))
    rcases hown.2 with ⟨rfl, _⟩ | ⟨g', c', cur, rfl, hg', _⟩
    · cases hk
    · simp only [Value.ownBlock, Option.some.injEq] at hk; omega
theorem eql_nil (a : Option Addr) (l c : Nat) (w : World) : (binOp .eql 22 (.slice a l c) (.slice none 0 0)).run Tryd.prog w = .ok (.bool a.isNone) w := by
  simp only [binOp]
  simp [run_equal_slice_nil w 22 5 a l c Tryd.underlying22]
theorem roomy_nil (w : World) : Calls Tryd.prog 15 #[.slice none 0 0] w fun e w' => e = .returned (.slice none 0 0) ∧ w' = w := by
  have hq := eql_nil none 0 0 w
  go_enter Tryd.func15, Tryd.ntmps15
  go_wp2
  go_ret
  exact ⟨rfl, rfl⟩
end Go.Proofs.YtcmjlhcpoajbkaaDoor
namespace Go.Proofs.YtcmjlhcpoajbkaaDoor
set_option maxRecDepth 10000
open Go.RowKit
theorem conv_arg (xs : List Int) (w : World) (ad : Addr) (n cap : Nat) (hn : xs.length = n) (hc : ∀ j, j < n → w.cell? (ad.add j) = some (.int .u8 (xs.getD j 0))) :
    (convert 22 9 (.slice (some ad) n cap)).run Tryd.prog w = .ok (.string ⟨(toU xs).toArray⟩) w := by
  have hl : (loadCells ad n).run Tryd.prog w = .ok (xs.map (Value.int .u8)).toArray w := by
    have := run_loadCells_list (P := Tryd.prog) w ad (xs.map (Value.int .u8)) (fun j v hv => by
      have hj : j < xs.length := by
        rcases Nat.lt_or_ge j xs.length with h | h
        · exact h
        · rw [List.getElem?_eq_none (by simpa using h)] at hv; cases hv
      rw [hc j (by omega)]
      simp only [List.getElem?_map, List.getElem?_eq_getElem hj, Option.map_some, Option.some.injEq] at hv
      rw [← hv, List.getD_eq_getElem?_getD, List.getElem?_eq_getElem hj]; rfl)
    simpa [hn] using this
  rw [run_convert_bytes_string w 22 9 5 _ n cap Tryd.underlying22 Tryd.underlying5 Tryd.underlying9, run_bytesToString w _ n cap xs hl, foldl_push_bytes]
  simp [toU, ByteArray.empty, ByteArray.emptyWithCapacity]
  rfl
theorem kept_nil (w : World) : Calls Tryd.prog 18 #[.slice none 0 0, .slice none 0 0] w fun e w' => e = .returned (.bool true) ∧ w' = w := by
  have hq := eql_nil none 0 0 w
  go_enter Tryd.func18, Tryd.ntmps18
  go_wp2
  go_ret
  exact ⟨rfl, rfl⟩
set_option maxHeartbeats 400000 in
theorem kept_some (ad : Addr) (g n cap cap' : Nat) (xs : List Int) (w : World) (hl : xs.length = n) (hn : n ≤ 140737488351232) (hc' : n + 1 ≤ cap')
    (h1 : ∀ j, j < n → w.cell? (ad.add j) = some (.int .u8 (xs.getD j 0))) (h2 : ∀ j, j < n → w.cell? ⟨g, j, none⟩ = some (.int .u8 (xs.getD j 0))) (hmark : w.cell? ⟨g, n, none⟩ = some (.int .u8 126)) :
    Calls Tryd.prog 18 #[.slice (some ⟨g, 0, none⟩) n cap', .slice (some ad) n cap] w fun e w' => e = .returned (.bool true) ∧ w' = w := by
  have hq := eql_nil (some ad) n cap w
  have k1 := conv_arg xs w ad n cap hl h1
  have k2 := conv_arg xs w ⟨g, 0, none⟩ n cap' hl (fun j hj => by rw [addr_add, Nat.zero_add]; exact h2 j hj)
  clear h1 h2 hl
  generalize toU xs = u at *
  go_enter Tryd.func18, Tryd.ntmps18
  go_wp2
  go_ret
  exact ⟨rfl, rfl⟩
end Go.Proofs.YtcmjlhcpoajbkaaDoor
namespace Go.Proofs.YtcmjlhcpoajbkaaDoor
set_option maxRecDepth 10000
open Go.RowKit
open Extern.Stop (cell)
/-- A slice of bytes that was handed in. -/
def Arg (w : World) (v : Value) (xs : List Int) : Prop :=
  (v = .slice none 0 0 ∧ xs = []) ∨ ∃ ad n cap, v = .slice (some ad) n cap ∧ xs.length = n ∧ n ≤ 140737488351232 ∧ Bytes xs ∧ ∀ j, j < n → w.cell? (ad.add j) = some (.int .u8 (xs.getD j 0))
theorem Arg.bytes {w : World} {v : Value} {xs : List Int} (h : Arg w v xs) : Bytes xs := by
  rcases h with ⟨_, rfl⟩ | ⟨_, _, _, _, _, _, h, _⟩
  · intro j; simp
  · exact h
theorem Arg.small {w : World} {v : Value} {xs : List Int} (h : Arg w v xs) : xs.length ≤ 140737488351232 := by
  rcases h with ⟨_, rfl⟩ | ⟨_, _, _, _, h, h2, _⟩
  · simp
  · omega
theorem Arg.below {w w' : World} {v : Value} {xs : List Int} (h : Arg w v xs) (hb : Below w.heap.size w w') : Arg w' v xs := by
  rcases h with h | ⟨ad, n, cap, h1, h2, h3, h4, h5⟩
  · exact .inl h
  · exact .inr ⟨ad, n, cap, h1, h2, h3, h4, fun j hj => by rw [hb.cell (block_lt_of_cell (h5 j hj))]; exact h5 j hj⟩
theorem Arg.conv {w : World} {v : Value} {xs : List Int} (h : Arg w v xs) : (convert 22 9 v).run Tryd.prog w = .ok (.string ⟨(toU xs).toArray⟩) w := by
  rcases h with ⟨rfl, rfl⟩ | ⟨ad, n, cap, rfl, h2, h3, h4, h5⟩
  · rw [run_convert_bytes_nil (P := Tryd.prog) w 22 5 Tryd.underlying22 Tryd.underlying5 0 0 9 Tryd.underlying9]; rfl
  · exact conv_arg xs w ad n cap h2 h5
/-- What was handed in, and what roomy made of it. -/
def Pair (w : World) (v : Value) (p : Option Addr) (n cap : Nat) (xs : List Int) : Prop :=
  (v = .slice none 0 0 ∧ p = none ∧ n = 0 ∧ cap = 0) ∨
  ∃ ad c g, v = .slice (some ad) n c ∧ p = some ⟨g, 0, none⟩ ∧ xs.length = n ∧ n ≤ 140737488351232 ∧ n + 1 ≤ cap ∧ g < w.heap.size ∧
    (∀ j, j < n → w.cell? (ad.add j) = some (.int .u8 (xs.getD j 0))) ∧ (∀ j, j < n → w.cell? ⟨g, j, none⟩ = some (.int .u8 (xs.getD j 0))) ∧ w.cell? ⟨g, n, none⟩ = some (.int .u8 126)
theorem Pair.below {w w' : World} {v : Value} {p : Option Addr} {n cap : Nat} {xs : List Int} (h : Pair w v p n cap xs) (hb : Below w.heap.size w w') : Pair w' v p n cap xs := by
  rcases h with h | ⟨ad, c, g, h1, h2, h3, h4, h5, h6, h7, h8, h9⟩
  · exact .inl h
  · exact .inr ⟨ad, c, g, h1, h2, h3, h4, h5, Nat.lt_of_lt_of_le h6 hb.size, fun j hj => by rw [hb.cell (block_lt_of_cell (h7 j hj))]; exact h7 j hj, fun j hj => by rw [hb.cell (block_lt_of_cell (h8 j hj))]; exact h8 j hj, by rw [hb.cell (block_lt_of_cell h9)]; exact h9⟩
theorem kept_any {w : World} {v : Value} {p : Option Addr} {n cap : Nat} {xs : List Int} (h : Pair w v p n cap xs) :
    Calls Tryd.prog 18 #[.slice p n cap, v] w fun e w' => e = .returned (.bool true) ∧ w' = w := by
  rcases h with ⟨rfl, rfl, rfl, rfl⟩ | ⟨ad, c, g, rfl, rfl, h3, h4, h5, h6, h7, h8, h9⟩
  · exact kept_nil w
  · exact kept_some ad g n c cap xs w h3 h4 h5 h7 h8 h9
section
variable {P : Program} {ops : Array Oper} {Q : Exit → Act → World → Prop} {S : World → Prop}
theorem yieldsIf_rowG {o : Oper} {a : Act} (hw : Region.wanted o (yielded ops a.tmps) = true) (ty : TypeId) (x : Operand) (ho : o.op = .load ty x)
    (g : Nat) (hx : a.eval x = .pointer (some ⟨g, 0, none⟩)) (t : TypeId) (cs : Array Value) (fr : Nat × Nat) (d : TypeDesc) (hS : ∀ w, S w → w.heap[g]? = some (.cells cs t fr))
    (hu : P.underlying ty = some d) (hd : (match d with | .struct _ | .array _ _ => true | _ => false) = true) (hi : (P.info? ty).map (·.size) = some cs.size) : YieldsIf P ops S o (.agg cs) a :=
  .inl ⟨hw, fun w hS' => by
    unfold execOp
    simp only [ho, hx, Instr.loadAt, Instr.sureAddr, Sem.run_bind, Sem.run_pure, Result.andThen_ok, run_loadVar_row w g t ty cs fr d (hS w hS') hu hd hi]⟩
end
end Go.Proofs.YtcmjlhcpoajbkaaDoor
namespace Go.Proofs.YtcmjlhcpoajbkaaDoor
set_option maxRecDepth 100000
open Go.ChangeShapes Go.WideShapes Go.ChangeAt Go.RowKit
theorem own : ownKnob Tryd.prog.godebug = none := by kernel_rfl
theorem laidOut : laidOutB Tryd.prog = true := by kernel_rfl
def nStart : String := Rows.hashesRow.named.getD 0 default
def nRounds : String := Rows.hashesRow.named.getD 1 default
theorem gStart : Tryd.prog.globalNamed nStart = some 0 := by kernel_rfl
theorem gRounds : Tryd.prog.globalNamed nRounds = some 1 := by kernel_rfl
theorem tStart : (Tryd.prog.globals[0]?).map (·.type) = some 143 := by kernel_rfl
theorem tRounds : (Tryd.prog.globals[1]?).map (·.type) = some 167 := by kernel_rfl
def laid2 : List (String × DataW Unit) := Rows.hashesRow.laid
theorem door_met (os : Os) (args : Array Value) : laidMetH Tryd.prog laid2 ((World.doorLaid Tryd.prog 400 os).forCall (fun _ _ => 0) ⟨#[], args, []⟩).memory :=
  laidMetH_of_parts3 (fuel := 8) (laidMet_of_run' 8 (by kernel_rfl) (by kernel_rfl)) (by kernel_rfl) (by kernel_rfl)
theorem block_of_var {W : World} {name : String} {g : Nat} {cs : Array Value} (hg : Tryd.prog.globalNamed name = some g) (h : W.var? Tryd.prog name = some cs) : ∃ t fr, W.heap[g]? = some (.cells cs t fr) := by
  unfold World.var? at h
  rw [hg] at h
  simp only [Option.bind_some] at h
  split at h
  · rename_i cs' t fr e
    cases h
    exact ⟨t, fr, e⟩
  · cases h
theorem tabs_of_laid {W : World} (h : laidMetH Tryd.prog laid2 W) : Tabs KS HS W := by
  rw [MakeChecks.laidMetH_plain _ _ _ (by kernel_rfl)] at h
  have h : laidMet Tryd.prog [(nStart, Lib.tabData .u32 HS), (nRounds, Lib.tabData .u32 KS)] W := h
  have h1 : Lib.TabIs Tryd.prog W nStart .u32 HS := Lib.tabIs_of_head (n := 8) gStart tStart und40 Tryd.underlying98 (by kernel_rfl) (by kernel_rfl) h
  have h2 : Lib.TabIs Tryd.prog W nRounds .u32 KS := Lib.tabIs_of_head (n := 64) gRounds tRounds und49 Tryd.underlying98 (by kernel_rfl) (by kernel_rfl) (laidMet.tail h)
  exact ⟨rfl, rfl, block_of_var gStart h1, block_of_var gRounds h2⟩
theorem bytes5 : Tryd.prog.bytesOf 5 = 1 := by kernel_rfl
end Go.Proofs.YtcmjlhcpoajbkaaDoor
