import Derived.Test.YtcmjlhcpoajbkaaDoorArr
namespace Go.Proofs.YtcmjlhcpoajbkaaDoor
/-- Bytes gathered into a word, the highest first. -/
def wacc (f : Nat → Int) : Nat → Int
  | 0 => 0
  | j + 1 => bits .or .u32 (wacc f j * 256 % 4294967296) (f j)
def wordOf (bs : List Int) (i : Nat) : Int := wacc (fun j => bs.getD (4 * i + j) 0) 4
def wsum (a b c d : Int) : Int := (a + b + c + d) % 4294967296
def wgrow (l : List Int) : Int := wsum (ss1 (l.getD (l.length - 2) 0)) (l.getD (l.length - 7) 0) (ss0 (l.getD (l.length - 15) 0)) (l.getD (l.length - 16) 0)
def wnext (bs : List Int) (l : List Int) : Int := if l.length < 16 then wordOf bs l.length else wgrow l
/-- The first i words of the rounds. -/
def wlist (bs : List Int) : Nat → List Int
  | 0 => []
  | i + 1 => wlist bs i ++ [wnext bs (wlist bs i)]
theorem wlist_len (bs : List Int) (i : Nat) : (wlist bs i).length = i := by
  induction i with
  | zero => rfl
  | succ i ih => simp [wlist, ih]
def wpad (bs : List Int) (i : Nat) : List Int := wlist bs i ++ List.replicate (64 - i) 0
theorem wpad_len (bs : List Int) (i : Nat) (h : i ≤ 64) : (wpad bs i).length = 64 := by simp [wpad, wlist_len]; omega
theorem wpad_zero (bs : List Int) : wpad bs 0 = List.replicate 64 0 := by simp [wpad, wlist]
theorem wpad_full (bs : List Int) : wpad bs 64 = wlist bs 64 := by simp [wpad]
theorem wpad_get (bs : List Int) (i j : Nat) (h : j < i) : (wpad bs i).getD j 0 = (wlist bs i).getD j 0 := by
  simp only [wpad, List.getD_eq_getElem?_getD]
  rw [List.getElem?_append_left (by rw [wlist_len]; exact h)]
theorem wpad_at (bs : List Int) (i : Nat) : (wpad bs i).getD i 0 = 0 := by
  simp only [wpad, List.getD_eq_getElem?_getD]
  rw [List.getElem?_append_right (by rw [wlist_len]; omega), wlist_len, List.getElem?_replicate]
  split <;> rfl
theorem wpad_set (bs : List Int) (i : Nat) (h : i < 64) : (wpad bs i).set i (wnext bs (wlist bs i)) = wpad bs (i + 1) := by
  have e : List.replicate (64 - i) (0 : Int) = 0 :: List.replicate (64 - (i + 1)) 0 := by
    rw [show 64 - i = (64 - (i + 1)) + 1 by omega, List.replicate_succ]
  simp only [wpad, wlist]
  rw [e, List.set_append, if_neg (by rw [wlist_len]; omega), wlist_len]
  simp
theorem wpad_same (bs : List Int) (i : Nat) (h : i < 64) : (wpad bs i).set i 0 = wpad bs i := by
  have e := wpad_at bs i
  have hl := wpad_len bs i (by omega)
  apply List.ext_getElem?
  intro j
  rw [List.getElem?_set]
  by_cases hj : i = j
  · subst hj
    rw [if_pos rfl, if_pos (by omega)]
    rw [List.getD_eq_getElem?_getD, List.getElem?_eq_getElem (by omega)] at e
    rw [List.getElem?_eq_getElem (by omega)]
    simpa using e.symm
  · rw [if_neg hj]
theorem wnext_word (bs : List Int) (i : Nat) (h : i < 16) : wnext bs (wlist bs i) = wordOf bs i := by
  simp [wnext, wlist_len, h]
theorem wnext_grow (bs : List Int) (i : Nat) (h : 16 ≤ i) : wnext bs (wlist bs i) = wsum (ss1 ((wlist bs i).getD (i - 2) 0)) ((wlist bs i).getD (i - 7) 0) (ss0 ((wlist bs i).getD (i - 15) 0)) ((wlist bs i).getD (i - 16) 0) := by
  simp [wnext, wgrow, wlist_len, Nat.not_lt.2 h]
end Go.Proofs.YtcmjlhcpoajbkaaDoor
