import Derived.Test.YtcmjlhcpoajbkaaDoorPad
namespace Go.Proofs.YtcmjlhcpoajbkaaDoor
set_option maxRecDepth 10000
def lenI (t : Nat) : List Int := (List.range 8).map fun j => 8 * (t : Int) / 2 ^ (56 - 8 * j) % 256
theorem lenI_len (t : Nat) : (lenI t).length = 8 := by simp [lenI]
def padI (t : Nat) (ys : List Int) : List Int := ys ++ 128 :: (List.replicate (padz ys.length) 0 ++ lenI t)
theorem padI_len (t : Nat) (ys : List Int) : (padI t ys).length = ys.length + 9 + padz ys.length := by
  simp [padI, lenI_len]; omega
/-- A beginning alone is looked at. -/
theorem hst_prefix (ks st ys tl : List Int) (q : Nat) (h : 64 * q ≤ ys.length) : hst ks st (ys ++ tl) q = hst ks st ys q := by
  induction q with
  | zero => rfl
  | succ q ih =>
    simp only [hst]
    rw [ih (by omega), List.drop_append_of_le_length (by omega), List.take_append_of_le_length (by rw [List.length_drop]; omega)]
/-- A block ahead. -/
theorem hst_shift (ks st A R : List Int) (hA : A.length = 64) (q : Nat) : hst ks st (A ++ R) (q + 1) = hst ks (tstate ks st A) R q := by
  induction q with
  | zero => simp [hst, ← hA]
  | succ q ih =>
    rw [hst, ih]
    simp only [hst]
    congr 2
    rw [show 64 * (q + 1) = A.length + 64 * q by omega, List.drop_append]
    simp
theorem setlen_form (L : List Int) (t i : Nat) (hL : L.length = 64) (hi : i ≤ 8) : setlen L t i = L.take (64 - i) ++ (lenI t).drop (8 - i) := by
  induction i with
  | zero => simp [setlen, lenI_len, ← hL]
  | succ i ih =>
    rw [setlen, ih (by omega)]
    have e1 : L.take (64 - i) = L.take (63 - i) ++ [L[63 - i]'(by omega)] := by
      rw [show 64 - i = (63 - i) + 1 by omega, List.take_succ_eq_append_getElem (by omega)]
    have e2 : (lenI t).drop (7 - i) = (8 * (t : Int) / 2 ^ (8 * i) % 256) :: (lenI t).drop (8 - i) := by
      rw [List.drop_eq_getElem_cons (by rw [lenI_len]; omega), show 7 - i + 1 = 8 - i by omega]
      congr 1
      simp only [lenI, List.getElem_map, List.getElem_range]
      rw [show 56 - 8 * (7 - i) = 8 * i by omega]
    rw [e1, show 64 - (i + 1) = 63 - i by omega, show 8 - (i + 1) = 7 - i by omega, e2, List.append_assoc, List.set_append, if_neg (by rw [List.length_take]; omega)]
    have e3 : 63 - i - (L.take (63 - i)).length = 0 := by rw [List.length_take]; omega
    rw [e3]
    simp
theorem fblock_short (rest : List Int) (h : rest.length < 64) : (fblock rest).set rest.length 128 = rest ++ 128 :: List.replicate (63 - rest.length) 0 := by
  unfold fblock
  rw [List.take_of_length_le (by omega), show 64 - rest.length = (63 - rest.length) + 1 by omega, List.replicate_succ, List.set_append, if_neg (by omega), Nat.sub_self]
  rfl
theorem rep_add (m n : Nat) : List.replicate (m + n) (0 : Int) = List.replicate m 0 ++ List.replicate n 0 := by rw [List.replicate_append_replicate]
theorem finP_pad (ks st : List Int) (t : Nat) (ys : List Int) : finP ks st t ys = dbytes (hst ks st (padI t ys) ((padI t ys).length / 64)) := by
  obtain ⟨q, hq⟩ : ∃ q, q = ys.length / 64 := ⟨_, rfl⟩
  obtain ⟨r, hr⟩ : ∃ r, r = ys.length % 64 := ⟨_, rfl⟩
  have hn : ys.length = 64 * q + r := by omega
  have hr64 : r < 64 := by omega
  have hrest : (ys.drop (64 * q)).length = r := by rw [List.length_drop]; omega
  have hdrop : (padI t ys).drop (64 * q) = ys.drop (64 * q) ++ 128 :: (List.replicate (padz ys.length) 0 ++ lenI t) := by
    unfold padI; rw [List.drop_append_of_le_length (by omega)]
  have hpre : hst ks st (padI t ys) q = hst ks st ys q := hst_prefix _ _ _ _ _ (by omega)
  unfold finP
  rw [← hq, ← hr]
  have hset : (fblock (ys.drop (64 * q))).set r 128 = ys.drop (64 * q) ++ 128 :: List.replicate (63 - r) 0 := by
    have := fblock_short (ys.drop (64 * q)) (by omega)
    rw [hrest] at this; exact this
  rw [hset]
  have hlen := padI_len t ys
  by_cases h56 : 56 ≤ r
  · rw [if_pos h56]
    have hz : padz ys.length = (63 - r) + 56 := by unfold padz; omega
    rw [show (padI t ys).length / 64 = q + 1 + 1 by rw [hlen, hz]; omega]
    have e1 : ((padI t ys).drop (64 * q)).take 64 = ys.drop (64 * q) ++ 128 :: List.replicate (63 - r) 0 := by
      rw [hdrop, hz, rep_add, List.append_assoc, List.take_append, hrest]
      rw [List.take_of_length_le (by omega), show 64 - r = (63 - r) + 1 by omega, List.take_succ_cons, List.take_append_of_le_length (by simp), List.take_of_length_le (by simp)]
    have e2 : ((padI t ys).drop (64 * (q + 1))).take 64 = setlen (List.replicate 64 0) t 8 := by
      rw [setlen_form _ _ _ (by simp) (Nat.le_refl _)]
      have e : (padI t ys).drop (64 * (q + 1)) = List.replicate 56 0 ++ lenI t := by
        rw [show 64 * (q + 1) = 64 * q + 64 by omega, ← List.drop_drop, hdrop, hz, rep_add, List.append_assoc, List.drop_append, hrest, List.drop_of_length_le (by omega), show 64 - r = (63 - r) + 1 by omega]
        simp
      rw [e, List.take_of_length_le (by simp [lenI_len])]
      simp
    rw [hst, hst, hpre, e1, e2]
  · rw [if_neg h56]
    have hz : padz ys.length = 55 - r := by unfold padz; omega
    rw [show (padI t ys).length / 64 = q + 1 by rw [hlen, hz]; omega]
    have e1 : ((padI t ys).drop (64 * q)).take 64 = setlen (ys.drop (64 * q) ++ 128 :: List.replicate (63 - r) 0) t 8 := by
      rw [setlen_form _ _ _ (by simp [hrest]; omega) (Nat.le_refl _), hdrop, hz]
      rw [List.take_of_length_le (i := 64) (by simp [hrest, lenI_len]; omega)]
      rw [show 63 - r = (55 - r) + 8 by omega, rep_add]
      have e : (64 : Nat) - 8 = (List.drop (64 * q) ys ++ 128 :: List.replicate (55 - r) 0).length := by simp [hrest]; omega
      rw [show List.drop (64 * q) ys ++ 128 :: (List.replicate (55 - r) 0 ++ List.replicate 8 0) = (List.drop (64 * q) ys ++ 128 :: List.replicate (55 - r) 0) ++ List.replicate 8 0 by simp]
      rw [e, List.take_left' rfl]
      simp
    rw [hst, hpre, e1]
end Go.Proofs.YtcmjlhcpoajbkaaDoor
