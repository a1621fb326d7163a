import Derived.Test.YtcmjlhcpoajbkaaDoorRt
import Derived.Test.YtcmjlhcpoajbkaaDoorMath
namespace Go.Proofs.YtcmjlhcpoajbkaaDoor
set_option maxRecDepth 10000
theorem lenB_int (n j : Nat) : ((lenB n j).toNat : Int) = 8 * (n : Int) / 2 ^ (56 - 8 * j) % 256 := by
  have h : n * 8 / 2 ^ (56 - 8 * j) % 256 < 256 := Nat.mod_lt _ (by omega)
  unfold lenB
  rw [UInt8.toNat_ofNat', show (2 : Nat) ^ 8 = 256 from rfl, Nat.mod_eq_of_lt h, Nat.mul_comm]
  simp only [Int.natCast_emod, Int.natCast_ediv, Int.natCast_mul, Int.natCast_pow]
  rfl
theorem toI_padB (l : List UInt8) : toI (padB l 8) = padI l.length (toI l) := by
  unfold padB padA padI
  rw [toI_append, toI_append, toI_len]
  have e1 : toI (128 :: List.replicate (padz l.length) 0) = 128 :: List.replicate (padz l.length) 0 := by
    simp [toI]
  have e2 : toI (lenU l.length 8) = lenI l.length := by
    unfold toI lenU lenI
    rw [List.map_map]
    apply List.map_congr_left
    intro j _
    exact lenB_int _ _
  rw [e1, e2, List.append_assoc]
  rfl
theorem hash_same (l : List UInt8) : hashP KS HS (toI l) = refHashP l := by
  unfold hashP refHashP
  rw [finP_pad, Nat.zero_add, toI_len, ← toI_padB, toI_len]
theorem padI_ahead (t : Nat) (A ys : List Int) (hA : A.length = 64) : padI t (A ++ ys) = A ++ padI t ys := by
  unfold padI
  have e : padz (A ++ ys).length = padz ys.length := by rw [List.length_append, hA]; unfold padz; omega
  rw [e, List.append_assoc]
theorem hash_ahead (A d : List UInt8) (hA : A.length = 64) : refHashP (A ++ d) = finP KS (tstate KS HS (toI A)) (64 + d.length) (toI d) := by
  unfold refHashP
  rw [finP_pad]
  have e1 : toI (padB (A ++ d) 8) = toI A ++ padI (64 + d.length) (toI d) := by
    rw [toI_padB, toI_append, List.length_append, hA, padI_ahead _ _ _ (by rw [toI_len, hA])]
  have e2 : (padB (A ++ d) 8).length / 64 = (padI (64 + d.length) (toI d)).length / 64 + 1 := by
    rw [← toI_len, e1, List.length_append, toI_len, hA]; omega
  rw [e1, e2, hst_shift _ _ _ _ (by rw [toI_len, hA])]
theorem mask_same (kk : List UInt8) (m : Int) (h : kk.length ≤ 64) : toI (maskU kk m 64) = maskP (fblock (toI kk)) m := by
  have hl := toI_len kk
  apply List.ext_getElem?
  intro i
  by_cases hi : i < 64
  · have e1 : (toI (maskU kk m 64))[i]? = some (((mbyte kk m i).toNat : Nat) : Int) := by
      simp [toI, maskU, hi]
    have e2 : (fblock (toI kk))[i]? = some (kbyte kk i) := by
      unfold fblock kbyte
      rw [List.take_of_length_le (by omega), List.getD_eq_getElem?_getD]
      by_cases hk : i < (toI kk).length
      · rw [List.getElem?_append_left hk, List.getElem?_eq_getElem hk]; rfl
      · have e0 : (toI kk)[i]? = none := List.getElem?_eq_none (by omega)
        rw [List.getElem?_append_right (by omega), e0, List.getElem?_replicate, if_pos (by omega)]; rfl
    rw [e1]
    simp only [maskP, List.getElem?_map, e2, Option.map_some]
    congr 1
    have hr := bits_u8_range .xor (kbyte kk i) m
    unfold mbyte
    rw [UInt8.toNat_ofNat', show (2 : Nat) ^ 8 = 256 from rfl]
    omega
  · rw [List.getElem?_eq_none (by rw [toI_len, maskU_len]; omega), List.getElem?_eq_none (by rw [maskP_len, fblock_len]; omega)]
theorem refHashP_bytes (l : List UInt8) : Bytes (refHashP l) := dbytes_bytes _
theorem kkU_len (key : List UInt8) : (kkU key).length ≤ 64 := by
  unfold kkU; split
  · rw [toU_len, refHashP_len]; omega
  · omega
theorem kblock_same (key : List UInt8) : kblock KS HS (toI key) = fblock (toI (kkU key)) := by
  unfold kblock kkU
  rw [toI_len]
  by_cases h : 64 < key.length
  · rw [if_pos h, if_pos h, hash_same, toI_toU _ (refHashP_bytes key)]
  · rw [if_neg h, if_neg h]
theorem tag_same (key data : List UInt8) : tagP KS HS (toI key) (toI data) = refTagP key data := by
  unfold tagP refTagP
  rw [kblock_same, ← mask_same _ _ (kkU_len key), ← mask_same _ _ (kkU_len key), toI_len]
  rw [hash_ahead _ _ (maskU_len _ _ _), hash_ahead _ _ (maskU_len _ _ _)]
  have e : (toU (finP KS (tstate KS HS (toI (maskU (kkU key) 54 64))) (64 + data.length) (toI data))).length = 32 := by rw [toU_len, finP_len]
  rw [e, toI_toU _ (finP_bytes _ _ _ _)]
end Go.Proofs.YtcmjlhcpoajbkaaDoor
