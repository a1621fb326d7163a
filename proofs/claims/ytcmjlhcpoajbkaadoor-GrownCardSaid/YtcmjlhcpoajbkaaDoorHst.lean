import Derived.Test.YtcmjlhcpoajbkaaDoorTake
import Derived.Test.YtcmjlhcpoajbkaaDoorFirst
import Derived.Test.YtcmjlhcpoajbkaaDoorDig
namespace Go.Proofs.YtcmjlhcpoajbkaaDoor
set_option maxRecDepth 10000
/-- The state behind q whole blocks. -/
def hst (ks st xs : List Int) : Nat → List Int
  | 0 => st
  | q + 1 => tstate ks (hst ks st xs q) ((xs.drop (64 * q)).take 64)
theorem hst_len (ks st xs : List Int) (h : st.length = 8) (q : Nat) : (hst ks st xs q).length = 8 := by
  cases q with
  | zero => exact h
  | succ q => exact tstate_len _ _ _
def setlen (l : List Int) (t : Nat) : Nat → List Int
  | 0 => l
  | i + 1 => (setlen l t i).set (63 - i) (8 * (t : Int) / 2 ^ (8 * i) % 256)
theorem setlen_len (l : List Int) (t i : Nat) : (setlen l t i).length = l.length := by
  induction i with
  | zero => rfl
  | succ i ih => simp [setlen, ih]
/-- What finish tells. -/
def finP (ks st : List Int) (t : Nat) (xs : List Int) : List Int :=
  if 56 ≤ xs.length % 64 then
    dbytes (tstate ks (tstate ks (hst ks st xs (xs.length / 64)) ((fblock (xs.drop (64 * (xs.length / 64)))).set (xs.length % 64) 128)) (setlen (List.replicate 64 0) t 8))
  else dbytes (tstate ks (hst ks st xs (xs.length / 64)) (setlen ((fblock (xs.drop (64 * (xs.length / 64)))).set (xs.length % 64) 128) t 8))
theorem fblock_full (ys : List Int) (h : 64 ≤ ys.length) : fblock ys = ys.take 64 := by
  simp [fblock, Nat.sub_eq_zero_of_le h]
/-- Bytes. -/
def Bytes (l : List Int) : Prop := ∀ j, 0 ≤ l.getD j 0 ∧ l.getD j 0 < 256
theorem Bytes.of {l : List Int} (h : ∀ x ∈ l, 0 ≤ x ∧ x < 256) : Bytes l := fun j => by
  rw [List.getD_eq_getElem?_getD]
  cases e : l[j]? with
  | none => simp
  | some v => exact h v (List.mem_of_getElem? e)
theorem Bytes.mem {l : List Int} (h : Bytes l) : ∀ x ∈ l, 0 ≤ x ∧ x < 256 := fun x hx => by
  obtain ⟨j, hj, rfl⟩ := List.mem_iff_getElem.1 hx
  have := h j
  rwa [List.getD_eq_getElem?_getD, List.getElem?_eq_getElem hj] at this
theorem Bytes.drop {l : List Int} (h : Bytes l) (n : Nat) : Bytes (l.drop n) := .of fun x hx => h.mem x (List.mem_of_mem_drop hx)
theorem Bytes.fblock {l : List Int} (h : Bytes l) : Bytes (fblock l) := .of fun x hx => by
  simp only [Go.Proofs.YtcmjlhcpoajbkaaDoor.fblock, List.mem_append, List.mem_replicate] at hx
  rcases hx with hx | ⟨_, rfl⟩
  · exact h.mem x (List.mem_of_mem_take hx)
  · omega
theorem Bytes.set {l : List Int} (h : Bytes l) (i : Nat) (v : Int) (hv : 0 ≤ v ∧ v < 256) : Bytes (l.set i v) := .of fun x hx => by
  rcases List.mem_or_eq_of_mem_set hx with hx | rfl
  · exact h.mem x hx
  · exact hv
theorem Bytes.setlen {l : List Int} (h : Bytes l) (t i : Nat) : Bytes (setlen l t i) := by
  induction i with
  | zero => exact h
  | succ i ih => exact ih.set _ _ (by omega)
theorem Bytes.zeros (n : Nat) : Bytes (List.replicate n 0) := .of fun x hx => by
  have := List.eq_of_mem_replicate hx
  omega
end Go.Proofs.YtcmjlhcpoajbkaaDoor
