import Derived.Test.YtcmjlhcpoajbkaaDoorWy
namespace Go.Proofs.YtcmjlhcpoajbkaaDoor
set_option maxRecDepth 10000
open Go.RowKit
/-- Where a path leads, from the root down. -/
def climbR (e : List Int) : List (List Int) → Nat → Nat → List Int × Bool
  | [], _, n => if n = 1 then (leafP e, true) else (Z32, false)
  | top :: rest, i, n => if n = 1 then (leafP e, false) else if i < halfN n then (knotP (climbR e rest i (halfN n)).1 top, (climbR e rest i (halfN n)).2) else (knotP top (climbR e rest (i - halfN n) (n - halfN n)).1, (climbR e rest (i - halfN n) (n - halfN n)).2)
theorem Z32_bytes : Bytes Z32 := .of fun x hx => by
  have := List.eq_of_mem_replicate hx
  omega
theorem climbR_ok (e : List Int) (l : List (List Int)) (i n : Nat) : (climbR e l i n).1.length = 32 ∧ Bytes (climbR e l i n).1 := by
  cases l with
  | nil => unfold climbR; split
           · exact ⟨leafP_len _, leafP_bytes _⟩
           · exact ⟨rfl, Z32_bytes⟩
  | cons t r => unfold climbR; split
                · exact ⟨leafP_len _, leafP_bytes _⟩
                · split
                  · exact ⟨knotP_len _ _, knotP_bytes _ _⟩
                  · exact ⟨knotP_len _ _, knotP_bytes _ _⟩
theorem rev_last (ds : List (List Int)) (m : Nat) (h : ds.length = m + 1) : ds.reverse = ds.getD m [] :: (ds.take m).reverse := by
  have e : ds = ds.take m ++ [ds.getD m []] := by
    conv => lhs; rw [← List.take_append_drop m ds]
    congr 1
    rw [List.drop_eq_getElem_cons (by omega), List.drop_of_length_le (by omega), List.getD_eq_getElem?_getD, List.getElem?_eq_getElem (by omega)]
    rfl
  conv => lhs; rw [e]
  rw [List.reverse_append]
  rfl
theorem eq1 (n : Nat) : ((n : Int) == 1) = decide (n = 1) := by
  by_cases h : n = 1
  · subst h; rfl
  · have : ¬ ((n : Int) = 1) := by omega
    simp [h, this]
/-- The k-th text on the way up. -/
def textAt (e : List Int) (ls : List Bool) (ds : List (List Int)) : Nat → List Int
  | 0 => 0 :: e
  | k + 1 => if ls.getD k false = true then 1 :: (hP (textAt e ls ds k) ++ ds.getD k []) else 1 :: (ds.getD k [] ++ hP (textAt e ls ds k))
theorem textAt_front (e : List Int) (ls ls' : List Bool) (ds ds' : List (List Int)) : ∀ k, k ≤ ls.length → k ≤ ds.length → textAt e (ls ++ ls') (ds ++ ds') k = textAt e ls ds k := by
  intro k
  induction k with
  | zero => intro _ _; rfl
  | succ k ih =>
    intro h1 h2
    have e1 : (ls ++ ls').getD k false = ls.getD k false := by simp [List.getD, List.getElem?_append_left (show k < ls.length by omega)]
    have e2 : (ds ++ ds').getD k [] = ds.getD k [] := by simp [List.getD, List.getElem?_append_left (show k < ds.length by omega)]
    simp only [textAt, e1, e2, ih (by omega) (by omega)]
theorem climbR_false (e : List Int) (l : List (List Int)) (i : Nat) (h : l ≠ []) : (climbR e l i 1).2 = false := by
  cases l with
  | nil => exact absurd rfl h
  | cons t r => simp [climbR]
/-- From the root down, and from the leaf up: the same. -/
theorem climb_up (e : List Int) : ∀ (f i n : Nat) (ds : List (List Int)), i < n → n ≤ 2 ^ f → f ≤ 63 →
    (climbR e ds.reverse i n).2 = decide (ds.length = (leftsF f i n).length) ∧ (ds.length = (leftsF f i n).length → (climbR e ds.reverse i n).1 = hP (textAt e (leftsF f i n) ds ds.length)) := by
  intro f
  induction f with
  | zero =>
    intro i n ds hi hn hf
    have e1 : n = 1 := by simp at hn; omega
    subst e1
    rcases Nat.eq_zero_or_pos ds.length with h0 | h0
    · have := List.length_eq_zero_iff.1 h0
      subst this
      exact ⟨rfl, fun _ => rfl⟩
    · have hne : ds.reverse ≠ [] := by simp; intro h; simp [h] at h0
      refine ⟨?_, fun h => ?_⟩
      · rw [climbR_false e _ i hne, leftsF_one]; simp; intro h; simp [h] at h0
      · rw [leftsF_one] at h; simp at h; simp [h] at h0
  | succ f ih =>
    intro i n ds hi hn hf
    by_cases h1 : n = 1
    · subst h1
      rcases Nat.eq_zero_or_pos ds.length with h0 | h0
      · have := List.length_eq_zero_iff.1 h0
        subst this
        rw [leftsF_one]
        exact ⟨rfl, fun _ => rfl⟩
      · have hne : ds.reverse ≠ [] := by simp; intro h; simp [h] at h0
        refine ⟨?_, fun h => ?_⟩
        · rw [climbR_false e _ i hne, leftsF_one]; simp; intro h; simp [h] at h0
        · rw [leftsF_one] at h; simp at h; simp [h] at h0
    · have hp63 : (2:Nat) ^ (f + 1) ≤ 2 ^ 63 := Nat.pow_le_pow_right (by omega) hf
      obtain ⟨hk1, hk2, hk3⟩ := halfN_spec n (by omega) (by omega)
      have hk4 := halfN_pow n f (by omega) hn (by omega)
      rcases Nat.eq_zero_or_pos ds.length with h0 | h0
      · have := List.length_eq_zero_iff.1 h0
        subst this
        have hl : (leftsF (f + 1) i n).length ≠ 0 := by
          rw [leftsF, if_neg h1]; split <;> simp
        refine ⟨?_, fun h => absurd h.symm hl⟩
        show (climbR e [] i n).2 = _
        simp only [climbR, if_neg h1]
        rw [decide_eq_false (fun h => hl h.symm)]
      · obtain ⟨m, hm⟩ : ∃ m, ds.length = m + 1 := ⟨ds.length - 1, by omega⟩
        have hrev := rev_last ds m hm
        have hsplit : ds = ds.take m ++ [ds.getD m []] := by
          have := congrArg List.reverse hrev
          simpa using this
        have hml : (ds.take m).length = m := by rw [List.length_take]; omega
        rw [hrev]
        simp only [climbR, if_neg h1]
        by_cases hik : i < halfN n
        · obtain ⟨A, Bq⟩ := ih i (halfN n) (ds.take m) hik hk4 (by omega)
          have hL : leftsF (f + 1) i n = leftsF f i (halfN n) ++ [true] := by rw [leftsF, if_neg h1, if_pos hik]
          rw [if_pos hik, hL, hm]
          rw [hml] at A Bq
          refine ⟨by rw [A]; simp, fun h => ?_⟩
          have h' : m = (leftsF f i (halfN n)).length := by simpa using h
          show knotP _ _ = _
          rw [Bq h']
          conv => rhs; rw [hsplit]
          have eL : (leftsF f i (halfN n) ++ [true]).getD m false = true := by rw [h']; simp [List.getD]
          have eD : (ds.take m ++ [ds.getD m []]).getD m [] = ds.getD m [] := by
            rw [List.getD_eq_getElem?_getD, List.getElem?_append_right (by omega), hml, Nat.sub_self]; rfl
          simp only [textAt, eL, if_true, eD]
          rw [textAt_front e _ _ _ _ m (by omega) (by omega)]
          rfl
        · obtain ⟨A, Bq⟩ := ih (i - halfN n) (n - halfN n) (ds.take m) (by omega) (by omega) (by omega)
          have hL : leftsF (f + 1) i n = leftsF f (i - halfN n) (n - halfN n) ++ [false] := by rw [leftsF, if_neg h1, if_neg hik]
          rw [if_neg hik, hL, hm]
          rw [hml] at A Bq
          refine ⟨by rw [A]; simp, fun h => ?_⟩
          have h' : m = (leftsF f (i - halfN n) (n - halfN n)).length := by simpa using h
          show knotP _ _ = _
          rw [Bq h']
          conv => rhs; rw [hsplit]
          have eL : (leftsF f (i - halfN n) (n - halfN n) ++ [false]).getD m false = false := by rw [h']; simp [List.getD]
          have eD : (ds.take m ++ [ds.getD m []]).getD m [] = ds.getD m [] := by
            rw [List.getD_eq_getElem?_getD, List.getElem?_append_right (by omega), hml, Nat.sub_self]; rfl
          simp only [textAt, eL, Bool.false_eq_true, if_false, eD]
          rw [textAt_front e _ _ _ _ m (by omega) (by omega)]
          rfl
end Go.Proofs.YtcmjlhcpoajbkaaDoor
