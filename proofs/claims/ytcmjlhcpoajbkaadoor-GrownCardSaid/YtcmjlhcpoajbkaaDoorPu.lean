import Derived.Test.YtcmjlhcpoajbkaaDoorPt
import Derived.Test.YtcmjlhcpoajbkaaDoorGr
namespace Go.Proofs.YtcmjlhcpoajbkaaDoor
/-- The half of a beginning that reaches beyond the half of all. -/
theorem halfN_mid (m n : Nat) (h2 : 2 ≤ n) (hm : halfN n < m) (hmn : m ≤ n) (h3 : n ≤ 2 ^ 64) : halfN m = halfN n := by
  obtain ⟨a, b, c⟩ := halfN_spec n h2 h3
  exact (halfN_of m (halfN n) (Lib.bitLen (n - 1) - 1) rfl hm (by omega) (by omega)).symm
/-- The document's link leads where it should. -/
theorem grow_link (z : List Int) : ∀ (f m : Nat) (es : List (List Int)) (whole : Bool) (known : List Int), es.length ≤ f → 1 ≤ m → m ≤ es.length → es.length < 2 ^ 63 → (whole = true → known = rootP (es.take m)) →
    growR z known (subP m es whole).reverse m es.length whole = (rootP (es.take m), rootP es, true) := by
  intro f
  induction f with
  | zero => intro m es whole known h1 h2 h3; omega
  | succ f ih =>
    intro m es whole known h1 h2 h3 h4 hk
    by_cases e : m = es.length
    · subst e
      rw [subP_all es whole (by omega)]
      cases whole with
      | true =>
        have hk' := hk rfl
        rw [List.take_of_length_le (Nat.le_refl _)] at hk' ⊢
        subst hk'
        simp [growR]
      | false =>
        rw [List.take_of_length_le (Nat.le_refl _)]
        simp [growR]
    · obtain ⟨a, b, c⟩ := halfN_spec es.length (by omega) (by omega)
      have hne : ¬ (m = es.length ∧ whole = true) := fun h => e h.1
      by_cases hm : m ≤ halfN es.length
      · rw [subP_left m es whole h2 (by omega) h4 hm, List.reverse_append]
        simp only [List.reverse_singleton, List.singleton_append, growR]
        rw [if_neg hne, if_neg e, if_pos hm]
        have hl : (es.take (halfN es.length)).length = halfN es.length := by rw [List.length_take]; omega
        have := ih m (es.take (halfN es.length)) whole known (by omega) h2 (by omega) (by omega) (fun hw => by rw [hk hw, List.take_take, Nat.min_eq_left hm])
        rw [hl] at this
        rw [this, List.take_take, Nat.min_eq_left hm, ← rootP_more es (by omega) h4]
      · rw [subP_right m es whole (by omega) h4 hm, List.reverse_append]
        simp only [List.reverse_singleton, List.singleton_append, growR]
        rw [if_neg hne, if_neg e, if_neg hm]
        have hl : (es.drop (halfN es.length)).length = es.length - halfN es.length := by rw [List.length_drop]
        have := ih (m - halfN es.length) (es.drop (halfN es.length)) false known (by omega) (by omega) (by omega) (by omega) (fun hw => by cases hw)
        rw [hl] at this
        rw [this]
        have hmid := halfN_mid m es.length (by omega) (by omega) (by omega) (by omega)
        have hm2 : (es.take m).length = m := by rw [List.length_take]; omega
        have h5 := rootP_more (es.take m) (by omega) (by omega)
        rw [hm2, hmid, List.take_take, Nat.min_eq_left (by omega), List.drop_take] at h5
        rw [← h5, ← rootP_more es (by omega) h4]
/-- The document's path leads to the root. -/
theorem climb_path : ∀ (f i : Nat) (es : List (List Int)), es.length ≤ f → i < es.length → es.length < 2 ^ 63 → climbR (es.getD i []) (pathP i es).reverse i es.length = (rootP es, true) := by
  intro f
  induction f with
  | zero => intro i es h1 h2; omega
  | succ f ih =>
    intro i es h1 h2 h3
    by_cases e : es.length ≤ 1
    · rw [pathP_one i es e]
      have e1 : es.length = 1 := by omega
      have ei : i = 0 := by omega
      subst ei
      match es, e1 with
      | [x], _ => simp [climbR, rootP_one]
    · obtain ⟨a, b, c⟩ := halfN_spec es.length (by omega) (by omega)
      rw [pathP_more i es (by omega) h3]
      by_cases hi : i < halfN es.length
      · rw [if_pos hi, List.reverse_append]
        simp only [List.reverse_singleton, List.singleton_append, climbR]
        rw [if_neg (by omega), if_pos hi]
        have hl : (es.take (halfN es.length)).length = halfN es.length := by rw [List.length_take]; omega
        have := ih i (es.take (halfN es.length)) (by omega) (by omega) (by omega)
        rw [hl, List.getD_eq_getElem?_getD, List.getElem?_take, if_pos hi, ← List.getD_eq_getElem?_getD] at this
        rw [this, ← rootP_more es (by omega) h3]
      · rw [if_neg hi, List.reverse_append]
        simp only [List.reverse_singleton, List.singleton_append, climbR]
        rw [if_neg (by omega), if_neg hi]
        have hl : (es.drop (halfN es.length)).length = es.length - halfN es.length := by rw [List.length_drop]
        have := ih (i - halfN es.length) (es.drop (halfN es.length)) (by omega) (by omega) (by omega)
        rw [hl, List.getD_eq_getElem?_getD, List.getElem?_drop, Nat.add_sub_cancel' (by omega), ← List.getD_eq_getElem?_getD] at this
        rw [this, ← rootP_more es (by omega) h3]
end Go.Proofs.YtcmjlhcpoajbkaaDoor
