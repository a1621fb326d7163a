import Derived.Test.YtcmjlhcpoajbkaaDoorQFa
import Derived.Test.YtcmjlhcpoajbkaaDoorQLp
namespace Go.Proofs.YtcmjlhcpoajbkaaDoor
set_option maxRecDepth 10000
open Go.RowKit
theorem toU_append (a b : List Int) : toU (a ++ b) = toU a ++ toU b := by simp [toU]
theorem numN_long (m : Nat) (h : m < 4294967296) : numN (toU (longI m 4)) = m := by
  simp only [numN, toU, longI, List.map_cons, List.map_nil, List.foldl_cons, List.foldl_nil, beI, UInt8.toNat_ofNat']
  omega
/-- One entry as it stands in a file. -/
def chunk (e s : List Int) : List Int := longI (e.length : Nat) 4 ++ (e ++ s)
theorem chunk_len (e s : List Int) (hs : s.length = 32) : (chunk e s).length = 4 + e.length + 32 := by
  simp only [chunk, List.length_append, longI_len, hs]; omega
theorem chunk_lenN (e s : List Int) (R : List UInt8) (he : e.length ≤ 300) : lenN (toU (chunk e s) ++ R) = e.length := by
  unfold lenN chunk
  rw [toU_append, List.append_assoc, List.take_append_of_le_length (by rw [toU_len, longI_len]; omega), List.take_of_length_le (by rw [toU_len, longI_len]; omega)]
  exact numN_long _ (by omega)
theorem chunk_drop (e s : List Int) (R : List UInt8) : (toU (chunk e s) ++ R).drop 4 = toU e ++ (toU s ++ R) := by
  unfold chunk
  rw [toU_append, toU_append, List.append_assoc, List.append_assoc]
  have h : 4 = (toU (longI (e.length : Nat) 4)).length := by rw [toU_len, longI_len]
  rw [List.drop_append_of_le_length (by omega), List.drop_of_length_le (by omega), List.nil_append]
theorem chunk_entN (e s : List Int) (R : List UInt8) (he : e.length ≤ 300) (hb : Bytes e) : entN (toU (chunk e s) ++ R) = e := by
  unfold entN
  rw [chunk_lenN e s R he, chunk_drop, List.take_append_of_le_length (by rw [toU_len]; omega), List.take_of_length_le (by rw [toU_len]; omega)]
  exact toI_toU e hb
theorem chunk_tagN (e s : List Int) (R : List UInt8) (he : e.length ≤ 300) (hs : s.length = 32) (hb : Bytes s) : tagN (toU (chunk e s) ++ R) = s := by
  unfold tagN
  rw [chunk_lenN e s R he, chunk_drop, List.drop_append_of_le_length (by rw [toU_len]; omega), List.drop_of_length_le (by rw [toU_len]; omega), List.nil_append, List.take_append_of_le_length (by rw [toU_len]; omega), List.take_of_length_le (by rw [toU_len]; omega)]
  exact toI_toU s hb
theorem chunk_errN (e s : List Int) (R : List UInt8) (he : e.length ≤ 300) (hs : s.length = 32) (a : Nat) (ha : a < 64) : errN (toU (chunk e s) ++ R) a = 0 := by
  unfold errN
  rw [chunk_lenN e s R he, List.length_append, toU_len, chunk_len e s hs, if_neg (by omega), if_neg (by omega), if_neg (by omega)]
theorem saveU_succ (key : List Int) (es : List (List Int)) (k : Nat) : saveU key es (k + 1) = saveU key es k ++ chunk (es.getD k []) (sealU key es (k + 1)) := rfl
/-- Entries that a log may have. -/
def Fit (es : List (List Int)) : Prop := es.length ≤ 64 ∧ ∀ k, (es.getD k []).length ≤ 300 ∧ Bytes (es.getD k [])
/-- A file at the place of its j-th entry. -/
theorem file_at (key : List Int) (es : List (List Int)) : ∀ n j, j < n → ∃ r, saveU key es n = saveU key es j ++ (chunk (es.getD j []) (sealU key es (j + 1)) ++ r) := by
  intro n
  induction n with
  | zero => intro j h; omega
  | succ n ih =>
    intro j h
    rcases Nat.lt_or_ge j n with h1 | h1
    · obtain ⟨r, hr⟩ := ih j h1
      exact ⟨r ++ chunk (es.getD n []) (sealU key es (n + 1)), by rw [saveU_succ, hr]; simp [List.append_assoc]⟩
    · have : j = n := by omega
      subst this
      exact ⟨[], by rw [saveU_succ]; simp⟩
theorem saveU_mono (key : List Int) (es : List (List Int)) (j : Nat) : (saveU key es (j + 1)).length = (saveU key es j).length + (4 + (es.getD j []).length + 32) := by
  rw [saveU_succ, List.length_append, chunk_len _ _ (sealU_ok _ _ _).1]
/-- One step of loading: by any key. -/
theorem load_step (key key' : List Int) (es : List (List Int)) (hf : Fit es) (F R : List UInt8) (n j : Nat) (hn : n ≤ es.length) (hj : j < n) (hF : F = toU (saveU key es n) ++ R) (k : Nat) (s : List Int) :
    loadF key' F (k + 1) (saveU key es j).length (es.take j) s = if sealU key es (j + 1) ≠ sealP key' s (es.getD j []) then (es.take j, 4, (saveU key es j).length) else loadF key' F k (saveU key es (j + 1)).length (es.take (j + 1)) (sealP key' s (es.getD j [])) := by
  obtain ⟨r, hr⟩ := file_at key es n j hj
  obtain ⟨h64, hfit⟩ := hf
  obtain ⟨h1, h2⟩ := hfit j
  obtain ⟨h3, h4⟩ := sealU_ok key es (j + 1)
  have hd : F.drop (saveU key es j).length = toU (chunk (es.getD j []) (sealU key es (j + 1))) ++ (toU r ++ R) := by
    rw [hF, hr, toU_append, toU_append, List.append_assoc, List.append_assoc]
    have h : (saveU key es j).length = (toU (saveU key es j)).length := by rw [toU_len]
    rw [List.drop_append_of_le_length (by omega), List.drop_of_length_le (by omega), List.nil_append]
  have hle : ¬ F.length ≤ (saveU key es j).length := by
    have := congrArg List.length hd
    rw [List.length_drop, List.length_append, toU_len, chunk_len _ _ h3] at this
    omega
  have htl : (es.take j).length = j := by rw [List.length_take]; omega
  simp only [loadF]
  rw [if_neg hle, hd, chunk_errN _ _ _ h1 h3 _ (by omega), if_neg (by simp), chunk_tagN _ _ _ h1 h3 h4, chunk_entN _ _ _ h1 h2, chunk_lenN _ _ _ h1]
  have ht : es.take j ++ [es.getD j []] = es.take (j + 1) := by
    rw [List.take_add_one, List.getD_eq_getElem?_getD, List.getElem?_eq_getElem (by omega)]
    rfl
  rw [ht, saveU_mono]
/-- Its own key leads through all of it. -/
theorem load_to (key : List Int) (es : List (List Int)) (hf : Fit es) (F R : List UInt8) (n : Nat) (hn : n ≤ es.length) (hF : F = toU (saveU key es n) ++ R) : ∀ j, j ≤ n →
    loadP key F = loadF key F (F.length + 1) (saveU key es j).length (es.take j) (sealU key es j) := by
  intro j
  induction j with
  | zero => intro _; rfl
  | succ j ih =>
    intro h
    rw [ih (by omega), load_step key key es hf F R n j hn (by omega) hF, if_neg (by simp [sealU])]
    have h1 := saveU_mono key es j
    exact loadF_fuel _ _ _ _ _ _ _ (by omega) (by omega)
theorem take_full (es : List (List Int)) : es.take es.length = es := List.take_length
theorem load_whole (key : List Int) (es : List (List Int)) (hf : Fit es) : loadP key (toU (saveP key es)) = (es, 0, (saveP key es).length) := by
  rw [load_to key es hf _ [] es.length (Nat.le_refl _) (by simp [saveP]) es.length (Nat.le_refl _), take_full]
  simp only [loadF]
  rw [if_pos (by rw [toU_len]; exact Nat.le_refl _)]
  rfl
end Go.Proofs.YtcmjlhcpoajbkaaDoor
